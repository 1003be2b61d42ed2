import PyProof.Rows.All
import Wide.All
import OpenK.AllK
import Wide.FinOn
import HandS.ForMost
import HandS.Style
import HandS.IsInst
import HandS.Replace
import HandS.Wide
import HandS.Codes
import HandS.Walk
import HandS.DictComp
import HandS.Conv
import HandS.Nested
import HandS.EndTab
import PyProof.ListStr
import PyProof.StrOps2
import HandS.Conv
import HandS.ExcIs
import HandS.ExcOwn
import HandS.FStr
import HandS.HeadHook3
import HandS.IsInst
import HandS.More
import HandS.Replace
import HandS.Set
import HandS.SetKeys
import HandS.SetTxt0
import HandS.SortRule
import HandS.StrMore
import HandS.Strs
import HandS.Style
import HandS.TupAny
import HandS.WordsExc
import HandS.Zip
import KE.GoesMore
import KE.KNestM
import KE.KeyNested
import KE.SortData
import PyProof.EnumMake
import PyProof.P3Eq
import PyProof.Rows.SetFrom
import PyProof.Rows.SortShellAny
import PyProof.StrLawsChain
import PyProof.TupleOfStr
import PySem.Challenge.RW_likehands_k16_whole_one_text_one_world
set_option Elab.async false
set_option linter.all false
set_option maxRecDepth 100000
set_option maxHeartbeats 4000000
namespace LH
open PySem PySem.Spec PyProof.Rows L2
/-! ### list(text) -/
section
variable {X : Cx}
def sgns (z : Str) : List V := z.cps.toList.map fun c => V.str ⟨#[c]⟩
theorem sgns_len (z : Str) : (sgns z).length = z.length := by
  unfold sgns
  rw [List.length_map, Array.length_toList]
  rfl
theorem vals_by : ∀ {xs : List V} {us : List Value}, xs.length = us.length → (∀ (j : Nat) (x : V) (u : Value), xs[j]? = some x → us[j]? = some u → RelV x u) → Vals xs us
  | [], [], _, _ => .nil
  | [], _ :: _, h, _ => by cases h
  | _ :: _, [], h, _ => by cases h
  | x :: xs, u :: us, h, q => .cons (q 0 x u rfl rfl) (vals_by (Nat.succ.inj h) fun j y v a b => q (j + 1) y v a b)
theorem vals_sgns {z : Str} {acc : Array Value} (h : ItemsOf (SignAt z) acc z.cps.size) : Vals (sgns z) acc.toList := by
  have hn : acc.size = z.cps.size := h.1
  refine vals_by ?_ fun j x u a b => ?_
  · rw [sgns_len, Array.length_toList, hn]
    rfl
  · rw [Array.getElem?_toList] at b
    obtain ⟨c, t, e1, e2⟩ := h.2 j u b
    unfold sgns at a
    rw [List.getElem?_map, Array.getElem?_toList, e1] at a
    cases a
    subst e2
    exact ⟨_, rfl⟩
theorem call_listS (hc : X.calm = true) : CallR X (.type "list") (fun xs H Q => ∃ z : Str, xs = [.str z] ∧ z.length ≤ sizeLine ∧ ∀ p, H p = none → Q (.ref p) (upd H p (.lst (sgns z)))) := by
  intro pins s σ H xs us Q I r h
  obtain ⟨z, rfl, hz, q⟩ := h
  obtain ⟨u, rfl, rx⟩ := vals1 r
  obtain ⟨t, rfl⟩ := rx
  refine PySem.call_list_str (I.ok.hd hc) z t (fun h' tk acc' c' kp e ha => ?_) hz
  exact ⟨.ref s.heap.objs.size, _, I.laid (t' := tk) kp (Nat.le_refl _) (show ObjOk X.prog X.w _ h' _ (.lst (sgns z)) from ⟨by rw [sgns_len]; exact hz, acc'.toList, c', vals_sgns ha, e⟩), rfl, q _ (I.hok.fresh (Nat.le_refl _))⟩
/-! ### text * number -/
def repS (z : Str) (n : Nat) : Str := ⟨(List.replicate n z.cps.toList).flatten.toArray⟩
theorem foldl_repS (z : Array Nat) : ∀ (n : Nat) (a : Array Nat), (List.replicate n z).foldl (· ++ ·) a = a ++ (List.replicate n z.toList).flatten.toArray
  | 0, a => by simp
  | n + 1, a => by
    rw [List.replicate_succ, List.foldl_cons, foldl_repS z n (a ++ z), List.replicate_succ, List.flatten_cons]
    apply Array.ext'
    simp
theorem repS_eq (z : Str) (n : Nat) : (⟨(List.replicate n z.cps).foldl (· ++ ·) #[]⟩ : Str) = repS z n := by
  rw [foldl_repS]
  unfold repS
  simp
theorem repS_one (z : Str) : repS z 1 = z := by
  unfold repS
  simp
theorem repS_len (z : Str) (n : Nat) : (repS z n).length = n * z.length := by
  show (List.replicate n z.cps.toList).flatten.toArray.size = n * z.cps.size
  rw [List.size_toArray, List.length_flatten, List.map_replicate, List.sum_replicate_nat, Array.length_toList]
theorem op_repS : OpR X (binaryOp .Mult) (fun x y H Q => ∃ (z : Str) (n : Int), x = .str z ∧ y = .int n ∧ 1 ≤ n ∧ n ≤ 1000 ∧ z.length ≤ 1000 ∧ Q (.str (repS z n.toNat)) H) := by
  intro pins s σ H x y v u Q I rx ry h
  obtain ⟨z, n, rfl, rfl, h1, h2, hz, q⟩ := h
  obtain ⟨t, rfl⟩ := rx
  obtain ⟨t', rfl⟩ := ry
  have hlen : z.length * n.toNat ≤ 1000000 := Nat.le_trans (Nat.mul_le_mul hz (show n.toNat ≤ 1000 by omega)) (by decide)
  refine PySem.P.mul_str ?_ (fun _ _ => ?_) (fun _ _ => ?_) ?_
  · rw [decide_eq_false (show ¬ n < -(2 ^ 63 : Int) by omega), decide_eq_false (show ¬ n ≥ 2 ^ 63 by omega)]
    rfl
  · have : (1000 : Int) ≤ (2 ^ 63 - 1) / n := by
      rw [Int.le_ediv_iff_mul_le (by omega)]
      omega
    omega
  · exact decide_eq_false (by
      have e : (1000000 : Nat) ≤ sizeLine := by decide
      omega)
  · rw [if_neg (show ¬ n < 1 by omega)]
    by_cases hc : (n == 1 || z.length == 0) = true
    · rw [if_pos hc]
      have e : repS z n.toNat = z := by
        rw [Bool.or_eq_true] at hc
        rcases hc with hc | hc
        · have : n = 1 := eq_of_beq hc
          subst this
          exact repS_one z
        · have h0 : z.cps.size = 0 := eq_of_beq hc
          have : z.cps = #[] := Array.eq_empty_of_size_eq_zero h0
          unfold repS
          rw [this]
          obtain ⟨a⟩ := z
          have : a = #[] := this
          subst this
          congr 1
          apply Array.ext'
          simp
      rw [e] at q
      exact ⟨.str z, H, I, ⟨_, rfl⟩, q⟩
    · rw [if_neg hc, repS_eq]
      refine ⟨?_, .str _, H, I.tok _, ⟨_, rfl⟩, q⟩
      show (repS z n.toNat).length ≤ sizeLine
      rw [repS_len, Nat.mul_comm]
      exact Nat.le_trans hlen (by decide)
end
/-! ### one sign in a text: its first place -/
theorem idxOf_le {c : Nat} : ∀ {xs : List Nat} {i : Nat}, xs[i]? = some c → xs.idxOf c ≤ i
  | [], i, h => by simp at h
  | x :: xs, i, h => by
    rw [List.idxOf_cons]
    by_cases e : x = c
    · subst e
      simp
    · cases i with
      | zero =>
        simp at h
        exact absurd h e
      | succ i =>
        have := idxOf_le (xs := xs) (i := i) (by simpa using h)
        rw [show (x == c) = false from beq_eq_false_iff_ne.mpr e]
        show xs.idxOf c + 1 ≤ i + 1
        omega
theorem occ_sign {z : Str} {c : Nat} (h : c ∈ z.cps.toList) : ∃ r, Builtin.Str.occurrences z ⟨#[c]⟩ 0 z.length 1 = z.cps.toList.idxOf c :: r := by
  have key : ∀ i, StrLaws.At z ⟨#[c]⟩ z.length i ↔ z.cps.toList[i]? = some c := fun i => StrLaws.subAt_one z c i
  have hi : z.cps.toList.idxOf c < z.cps.toList.length := List.idxOf_lt_length_iff.mpr h
  have e0 : z.cps.toList[z.cps.toList.idxOf c]? = some c := by
    rw [List.getElem?_eq_getElem hi, List.getElem_idxOf]
  rcases StrLaws.occ_head z ⟨#[c]⟩ 1 (Nat.le_refl _) with ⟨_, hn⟩ | ⟨i, r, e, ha, hn⟩
  · exact absurd ((key _).mpr e0) (hn _)
  · refine ⟨r, ?_⟩
    rw [e]
    congr 1
    have a1 : ¬ z.cps.toList.idxOf c < i := fun q => hn _ q ((key _).mpr e0)
    have a2 := idxOf_le ((key i).mp ha)
    omega
theorem find_sign {z : Str} {c : Nat} (h : c ∈ z.cps.toList) : Txt.find z ⟨#[c]⟩ = (z.cps.toList.idxOf c : Nat) := by
  obtain ⟨r, e⟩ := occ_sign h
  unfold Txt.find
  rw [e]
/-! ### texts of signs -/
abbrev sg (c : Nat) : Str := ⟨#[c]⟩
abbrev vs_ (cs : List Nat) : List V := cs.map fun c => V.str (sg c)
theorem join_sg : ∀ cs : List Nat, Txt.join ⟨#[]⟩ (cs.map sg) = ⟨cs.toArray⟩ := fun cs => by
  rw [TL.join_eq]
  induction cs with
  | nil => rfl
  | cons c r ih =>
    cases r with
    | nil => rfl
    | cons d r =>
      show sg c ++ ⟨#[]⟩ ++ Str.join ⟨#[]⟩ ((d :: r).map sg) = _
      rw [ih]
      show (⟨(#[c] ++ #[]) ++ (d :: r).toArray⟩ : Str) = ⟨(c :: d :: r).toArray⟩
      congr 1
      apply Array.ext'
      simp
theorem risingS_sg : ∀ (cs : List Nat) (c : Nat), risingS (sg c) (cs.map sg) = true → (c :: cs).Pairwise (· ≤ ·)
  | [], c, _ => by simp
  | d :: r, c, h => by
    have h : (!ltCps [d] [c] && risingS (sg d) (r.map sg)) = true := h
    rw [Bool.and_eq_true] at h
    have ih := risingS_sg r d h.2
    have hcd : c ≤ d := by
      have := h.1
      simp [ltCps] at this
      exact this
    refine List.Pairwise.cons (fun x hx => ?_) ih
    rcases List.mem_cons.mp hx with rfl | hx
    · exact hcd
    · exact Nat.le_trans hcd (List.rel_of_pairwise_cons ih hx)
theorem sortedS_sg {cs : List Nat} (h : sortedS (cs.map sg) = true) : cs.Pairwise (· ≤ ·) := by
  cases cs with
  | nil => simp
  | cons c r => exact risingS_sg r c h
/-- what a sort of one-sign texts gives -/
theorem perm_sg {cs : List Nat} {ys : List Str} (h : ys.Perm (cs.map sg)) : ∃ ds : List Nat, ys = ds.map sg ∧ ds.Perm cs := by
  let f : Str → Nat := fun z => z.cps.getD 0 0
  have hm := h.map f
  rw [List.map_map, show f ∘ sg = id from rfl, List.map_id] at hm
  refine ⟨ys.map f, ?_, hm⟩
  rw [List.map_map]
  have : ∀ y ∈ ys, (sg ∘ f) y = y := fun y hy => by
    obtain ⟨c, _, rfl⟩ := List.mem_map.mp (h.mem_iff.mp hy)
    rfl
  conv => lhs; rw [← List.map_id ys]
  exact List.map_congr_left fun y hy => (this y hy).symm
structure IsLet (z : Str) : Prop where
  one : 1 ≤ z.length
  five : z.length ≤ 5
  rise : z.cps.toList.Pairwise (· < ·)
  small : ∀ c ∈ z.cps.toList, 97 ≤ c ∧ c ≤ 122
theorem rise_of {cs : List Nat} (h : cs.Pairwise (· ≤ ·)) (n : cs.Nodup) : cs.Pairwise (· < ·) := by
  have := List.Pairwise.and h n
  exact this.imp fun ⟨a, b⟩ => Nat.lt_of_le_of_ne a b
theorem mem_az {c : Nat} (h : c ∈ (List.range 26).map (97 + ·)) : 97 ≤ c ∧ c ≤ 122 := by
  obtain ⟨k, hk, rfl⟩ := List.mem_map.mp h
  have := List.mem_range.mp hk
  omega
theorem cutV_map {f : Nat → V} (cs : List Nat) (lo hi : Option Int) : cutV (cs.map f) lo hi = ((cs.drop (HT.sIx cs.length 0 lo)).take (HT.sIx cs.length cs.length hi - HT.sIx cs.length 0 lo)).map f := by
  unfold cutV
  rw [List.length_map, List.map_take, List.map_drop]
theorem cut_from (cs : List Nat) (g : Nat) : (cs.drop (HT.sIx cs.length 0 (some (g : Int)))).take (HT.sIx cs.length cs.length none - HT.sIx cs.length 0 (some (g : Int))) = cs.drop g := by
  rw [HT.sIx_nat, HT.sIx_none]
  by_cases h : g ≤ cs.length
  · rw [Nat.min_eq_left h, List.take_of_length_le (by rw [List.length_drop] <;> omega)]
  · rw [Nat.min_eq_right (by omega), List.drop_of_length_le (by omega), List.drop_of_length_le (by omega), List.take_nil]
theorem cut_to (cs : List Nat) (g : Nat) : (cs.drop (HT.sIx cs.length 0 none)).take (HT.sIx cs.length cs.length (some (g : Int)) - HT.sIx cs.length 0 none) = cs.take g := by
  rw [HT.sIx_nat, HT.sIx_none, Nat.sub_zero, List.drop_zero]
  by_cases h : g ≤ cs.length
  · rw [Nat.min_eq_left h]
  · rw [Nat.min_eq_right (by omega), List.take_of_length_le (Nat.le_refl _), List.take_of_length_le (by omega)]
theorem seqIx {i : Int} {n : Nat} (h0 : 0 ≤ i) (h1 : i < n) : seqIndex? i n = some i.toNat := by
  unfold seqIndex?
  have e : ¬ i < 0 := by omega
  simp [h0, h1, e]
theorem atI_of {xs : List V} {i : Int} {v : V} (h0 : 0 ≤ i) (h : xs[i.toNat]? = some v) : atI xs i = some v := at_of (j := i.toNat) (by omega) h
theorem erase_perm (ls : List Nat) (k : Nat) (h : k < ls.length) : ls.Perm (ls[k] :: ls.eraseIdx k) := by
  rw [List.eraseIdx_eq_take_drop_succ]
  conv => lhs; rw [← List.take_append_drop k ls, List.drop_eq_getElem_cons h]
  exact List.perm_middle
theorem sgns_az : sgns "abcdefghijklmnopqrstuvwxyz" = vs_ ((List.range 26).map (97 + ·)) := by decide +kernel
/-! ### the rules that speak of the written part, by a K of their own (so that they may stand within a comprehension) -/
section
variable {X : Cx} (K : PySem.W.Frag) (hK : X.K = K)
def rLenK : List V → Hp → VK → Prop := fun xs H Q => ∃ p ys, xs = [.ref p] ∧ (SqL K H p ys ∨ SqT K H p ys) ∧ Q (.int ys.length) H
def rListK : List V → Hp → VK → Prop := fun xs H Q => ∃ p ys, xs = [.ref p] ∧ (SqL K H p ys ∨ SqT K H p ys) ∧ ∀ l, H l = none → Q (.ref l) (upd H l (.lst ys))
def rTupleK : List V → Hp → VK → Prop := fun xs H Q => ∃ p ys, xs = [.ref p] ∧ ((SqL K H p ys ∧ ∀ l, H l = none → Q (.ref l) (upd H l (.tup ys))) ∨ (SqT K H p ys ∧ Q (.ref p) H))
def rJoinK : V → List V → Hp → VK → Prop := fun x xs H Q => ∃ a p, ∃ ys : List Str, x = .str a ∧ xs = [.ref p] ∧ (SqL K H p (ys.map V.str) ∨ SqT K H p (ys.map V.str)) ∧ (ys.map (·.length)).sum + ys.length * a.length ≤ 16777216 ∧ Q (.str (Txt.join a ys)) H
include hK
theorem ix_listK : IxR X (rIxL K) := by subst hK; exact ix_list
theorem ix_tupK : IxR X (rIxT K) := by subst hK; exact ix_tup
theorem sl_listK : SlR X (rSlL K) := by subst hK; exact sl_list
theorem sl_tupK : SlR X (rSlT K) := by subst hK; exact sl_tup
theorem op_in_seqK : OpR X (compareOp .In) (rIn K false) := by subst hK; exact op_in_seq
theorem op_notIn_seqK : OpR X (compareOp .NotIn) (rIn K true) := by subst hK; exact op_notIn_seq
theorem call_lenK : CallR X (.builtin "len") (rLenK K) := by subst hK; exact call_len_seq
theorem call_listK : CallR X (.type "list") (rListK K) := by subst hK; exact call_list_of
theorem call_tupleK : CallR X (.type "tuple") (rTupleK K) := by subst hK; exact call_tuple_of
theorem cr_sumK (hc : X.calm = true) : CallR X (.builtin "sum") (rSum K) := by subst hK; exact cr_sum hc
theorem cr_anyK (hc : X.calm = true) : CallR X (.builtin "any") (rAny K) := by subst hK; exact cr_any hc
theorem cr_allK (hc : X.calm = true) : CallR X (.builtin "all") (rAll K) := by subst hK; exact cr_all hc
theorem cr_sortedK : CallR X (.builtin "sorted") (rSorted K) := by subst hK; exact cr_sorted
theorem cr_sortedSK : CallR X (.builtin "sorted") (rSortedS K) := by subst hK; exact cr_sortedS
theorem call_isiK : CallR X (.builtin "isinstance") (rIsi K) := by subst hK; exact call_isi
theorem mt_joinK : MtR X "str.join" (rJoinK K) := by subst hK; exact mt_join
theorem pi_listK {tg l : Expr} {tl : TE} (hl : PE X l tl) : PI X tg l (iList K tl) := by subst hK; exact pi_list hl
theorem pi_tupK {tg l : Expr} {tl : TE} (hl : PE X l tl) : PI X tg l (iTup K tl) := by subst hK; exact pi_tup hl
theorem pe_revLK {e : Expr} {te : TE} {k : Nat} {p1 p2 p3 pos : Pos} (he : PE X e te) : PE X (.Subscript e (.Slice none none (some (.UnaryOp .USub (.Constant (.int 1) k p1) p2)) p3) pos) (tRevL K te) := by subst hK; exact pe_revL he
theorem pg_tupK {pos : Pos} {es : List Expr} {k : Nat} {t : TGs} {n : Nat} (hc : X.calm = true) (h : PGs X es t) (hn : (assignEach es X.env).length = n := by rfl) (hst : (assignEach es X.env).findIdx? (·.1) = none := by rfl) : PG X (.Tuple es k pos) (gTup K n t) := by subst hK; exact pg_tup hc h hn hst
theorem pe_bm0K {o : Expr} {to : TE} {name : Str} {ap cp : Pos} {T id : String} {r : V → List V → Hp → VK → Prop} (pa : PlainAttrs T) (sl : Slot T name id) (ty : typeOf (.builtin id) = pure (.type "method_descriptor")) (hm : MtR X id r) (ho : PE X o to) (h1 : attributeBase o name X.env (eval o X.env) = eval o X.env := by rfl) (h2 : (ap.endLine == cp.line) = true := by rfl) : PE X (.Call (.Attribute o name ap) [] [] cp) (tBM0 K T r to) := by subst hK; exact pe_bm0 pa sl ty hm ho h1 h2
theorem pe_bmK {o e : Expr} {es : List Expr} {to : TE} {t : TA} {name : Str} {ap cp : Pos} {T id : String} {r : V → List V → Hp → VK → Prop} (pa : PlainAttrs T) (sl : Slot T name id) (ty : typeOf (.builtin id) = pure (.type "method_descriptor")) (hm : MtR X id r) (ho : PE X o to) (ha : PA X (e :: es) t) (h1 : attributeBase o name X.env (eval o X.env) = eval o X.env := by rfl) (h2 : ((backTo cp (starEach (e :: es) X.env)).all (fun x => !x.1) && (backToKw cp (keywordEach [] X.env)).all (fun x => x.1.isSome) && decide ((e :: es).length + ([] : List Keyword).length + (if ([] : List Keyword).isEmpty then 0 else 1) < 30)) = true := by rfl) (h3 : (ap.endLine == cp.line) = true := by rfl) (h4 : starEach (e :: es) X.env = (false, eval e X.env) :: starEach es X.env := by rfl) (h5 : (backTo cp (starEach es X.env)).any (·.1) = false := by rfl) : PE X (.Call (.Attribute o name ap) (e :: es) [] cp) (tBM K T r to t) := by subst hK; exact pe_bm pa sl ty hm ho ha h1 h2 h3 h4 h5
end
/-- a comprehension's turn without a test -/
theorem lcyes {σ : L2.St} {H : Hp} {A B : Hp → Prop} (h : A H) : tYes σ H (fun b H3 => if b = true then A H3 else B H3) := by
  show (if true = true then A H else B H)
  rw [if_pos rfl]
  exact h
theorem vs_snoc (ys : List Nat) (c : Nat) : vs_ ys ++ [V.str (sg c)] = vs_ (ys ++ [c]) := by
  show _ = List.map _ (ys ++ [c])
  rw [List.map_append]
  rfl
theorem vs_erase : ∀ (ls : List Nat) (k : Nat), (vs_ ls).eraseIdx k = vs_ (ls.eraseIdx k)
  | [], _ => rfl
  | _ :: _, 0 => rfl
  | c :: r, k + 1 => by
    show V.str (sg c) :: (vs_ r).eraseIdx k = V.str (sg c) :: vs_ (r.eraseIdx k)
    rw [vs_erase r k]
end LH

namespace LH
open PySem PySem.Spec PyProof.Rows L2
/-! ### sets of texts: set(list), sorted(set) -/
/-- at a stands a set whose members are just the texts l, each once -/
def TSet (P : Program) (w : World) (a : Addr) (l : List Str) (h : Heap) : Prop :=
  l.Nodup ∧ ∃ D : Froz.SD, h.get? a = some (Froz.sObj "set" D) ∧ Froz.TxOk P w D l ∧ Ris D.2.2.place.toList ∧ (w.params.followText "set-order" = true ∨ D.2.2.led = true)
theorem TSet.at {P : Program} {w : World} {a : Addr} {l : List Str} {h h' : Heap} (T : TSet P w a l h) (k : ∀ o, h.get? a = some o → h'.get? a = some o) : TSet P w a l h' :=
  let ⟨n, D, e, r⟩ := T
  ⟨n, D, k _ e, r⟩
theorem tx_ris (x : Int) (v : Value) (D : Froz.SD) (r : Ris D.2.2.place.toList) : Ris (Froz.addTx x v D).2.2.place.toList ∧ (Froz.addTx x v D).2.2.led = D.2.2.led := by
  have r1 := layNew_ris D.2.2 D.1 x v r
  have l1 := layNew_led D.2.2 D.1 x v
  unfold Froz.addTx
  generalize layNew D.2.2 D.1 x v = Z at r1 l1 ⊢
  obtain ⟨es1, t1, wd, gv⟩ := Z
  dsimp only at r1 l1 ⊢
  have r2 : Ris (if t1.plain = true then { t1 with plain := false } else t1 : SetTable).place.toList ∧ (if t1.plain = true then { t1 with plain := false } else t1 : SetTable).led = D.2.2.led := by
    split
    · exact ⟨r1, l1⟩
    · exact ⟨r1, l1⟩
  generalize (if t1.plain = true then { t1 with plain := false } else t1 : SetTable) = t2 at r2 ⊢
  unfold Froz.tailTx
  split
  · exact ⟨relayAll_ris _ _ _, (relayAll_led _ _ _).trans r2.2⟩
  · exact r2
section
variable {P : Program} {w : World} {A : Around} {E : Value → Shared → Prop} {s : Shared}
/-- the add of a text that is in -/
theorem tx_old {a : Addr} {T : String} {D : Froz.SD} {l : List Str} {k : Str} {u : Tok} {Q : Bool → Shared → Prop} (ho : s.heap.get? a = some (Froz.sObj T D)) (F : Froz.TxOk P w D l) (hk : k ∈ l) (hb : l.length < scanBound) (h : Q false s) :
    wpAny (model P w) A (setAddHashed a (.str k u) (hashStr w k)) Q E s := by
  have hkey : (PySem.strKind P w).is k (.str k u) = true := Froz.is_str k u
  have hd : (Froz.sObj T D).data = .set D.1 D.2.1 D.2.2 := rfl
  have hsz : D.1.size < scanBound := by rw [F.sz]; exact hb
  obtain ⟨e, he, hm⟩ := (F.mem k).mp hk
  unfold setAddHashed setAddHashedIn
  refine wpAny_holding (wpAny_bind (wpAny_setState_of ho hd F.fit ?_))
  dsimp only
  rw [byScan_of (knd := PySem.strKind P w) rfl hsz F.el]
  simp only [↓reduceIte]
  unfold setAddByScan
  refine wpAny_bind (wpAny_bind (wpAny_rule (wpAny_bind (wpAny_setScan_of (knd := PySem.strKind P w) (k := k) hkey ho hd F.fit F.el ?_))))
  cases hf : List.findIdx? (fun e => (PySem.strKind P w).is k e.2) D.1.toList with
  | none =>
    have c := List.findIdx?_eq_none_iff.mp hf e he
    rw [hm] at c
    cases c
  | some j => exact wpAny_pure (wpAny_pure h)
/-- the members behind one more -/
def tAdd (l : List Str) (k : Str) : List Str := if k ∈ l then l else k :: l
theorem mem_tAdd {l : List Str} {k x : Str} : x ∈ tAdd l k ↔ x ∈ l ∨ x = k := by
  unfold tAdd
  split
  · rename_i h
    exact ⟨.inl, fun z => z.elim id fun e => e ▸ h⟩
  · rw [List.mem_cons]
    exact Or.comm
theorem tAdd_len (l : List Str) (k : Str) : (tAdd l k).length ≤ l.length + 1 := by
  unfold tAdd
  split
  · omega
  · exact Nat.le_refl _
theorem tx_add {a : Addr} {l : List Str} {k : Str} {u : Tok} {Q : Bool → Shared → Prop} (T : TSet P w a l s.heap) (hb : l.length + 1 < scanBound)
    (h : ∀ (b : Bool) (h' : Heap) (tk : Nat), s.toks ≤ tk → TSet P w a (tAdd l k) h' → (∀ c o, c ≠ a → s.heap.get? c = some o → h'.get? c = some o) → Q b { s with heap := h', toks := tk }) : wpAny (model P w) A (setAdd a (.str k u)) Q E s := by
  obtain ⟨nd, D, ho, F, r, hl⟩ := T
  unfold setAdd
  refine wpAny_holding (wpAny_bind ((PySem.strKind P w).pyHash (k := k) (Froz.is_str _ _) ?_))
  by_cases hk : k ∈ l
  · have e : tAdd l k = l := if_pos hk
    refine tx_old (s := { s with toks := s.toks + 1 }) (l := l) (D := D) ho F hk (by omega) ?_
    exact h false s.heap (s.toks + 1) (Nat.le_succ _) (by rw [e]; exact ⟨nd, D, ho, F, r, hl⟩) fun _ _ _ q => q
  · have e : tAdd l k = k :: l := if_neg hk
    refine Froz.add_x (s := { s with toks := s.toks + 1 }) (l := l) (D := D) ho F hk hb ?_
    obtain ⟨r1, l1⟩ := tx_ris (hashStr w k) (.str k u) D r
    refine h true _ (s.toks + 1) (Nat.le_succ _) ?_ fun c o hc q => Heap.get?_update_of_ne _ (Ne.symm hc) q
    rw [e]
    exact ⟨List.nodup_cons.mpr ⟨hk, nd⟩, _, Froz.get_upd _ ho rfl, Froz.add_ok u F, r1, by rw [l1]; exact hl⟩
end
/-- the members, when the texts were put in one by one -/
def tAll (xs : List Str) : List Str := xs.foldl tAdd []
theorem mem_foldl_tAdd {x : Str} : ∀ (xs l : List Str), x ∈ xs.foldl tAdd l ↔ x ∈ l ∨ x ∈ xs
  | [], l => by simp
  | k :: r, l => by
    rw [List.foldl_cons, mem_foldl_tAdd r, mem_tAdd, List.mem_cons]
    constructor
    · rintro ((q | q) | q)
      · exact .inl q
      · exact .inr (.inl q)
      · exact .inr (.inr q)
    · rintro (q | q | q)
      · exact .inl (.inl q)
      · exact .inl (.inr q)
      · exact .inr q
theorem mem_tAll {x : Str} {xs : List Str} : x ∈ tAll xs ↔ x ∈ xs := by
  unfold tAll
  rw [mem_foldl_tAdd]
  simp
theorem len_foldl_tAdd : ∀ (xs l : List Str), (xs.foldl tAdd l).length ≤ l.length + xs.length
  | [], l => by simp
  | k :: r, l => by
    have a := len_foldl_tAdd r (tAdd l k)
    have b := tAdd_len l k
    rw [List.foldl_cons, List.length_cons]
    omega
theorem tAll_len (xs : List Str) : (tAll xs).length ≤ xs.length := by
  have := len_foldl_tAdd xs []
  rw [List.length_nil, Nat.zero_add] at this
  exact this
theorem tAll_snoc (xs : List Str) (k : Str) : tAll (xs ++ [k]) = tAdd (tAll xs) k := by
  unfold tAll
  rw [List.foldl_append]
  rfl
section
variable {P : Program} {w : World} {A : Around} {R : Result → Shared → Prop} {I : Addr} {fp wr : List Addr} {G : Array GenState → Array GenState → Prop} {n : Nat} {Pv : Nat → Value → Prop} {St : Nat → Shared → Prop}
/-- the loop that puts what is walked into a set of texts -/
theorem tx_loop (W : WalksS P w A.in1 I fp wr G n Pv St) (S : Addr) (hS : S ∉ fp) (xs : List Str) (hn : xs.length = n) (hb : n + 1 < scanBound) (hv : ∀ i v, Pv i v → ∃ x t, xs[i]? = some x ∧ v = .str x t) :
    ∀ (k i : Nat) (s : Shared), n - i = k → i ≤ n → St i s → TSet P w S (tAll (xs.take i)) s.heap → (∀ s', Moved (S :: wr) G s s' → TSet P w S (tAll xs) s'.heap → R (.ok (.ret .none)) s') →
      codeAny (model P w) A (.builtin "set.update.loop" ⟨[.ref S, .ref I], []⟩) R s := by
  have hw : S ∉ wr := fun z => hS (W.sub _ z)
  have up : ∀ b ∈ wr, b ∈ S :: wr := fun b z => List.mem_cons_of_mem _ z
  intro k
  induction k with
  | zero =>
    intro i s hk hi st T hR
    obtain rfl : i = n := by omega
    rw [List.take_of_length_le (Nat.le_of_eq hn)] at T
    refine codeAny_builtin PyProof.Rows.F.entry_set_update_loop ?_
    rw [Around.under_plainId PyProof.Rows.F.plain_set_update_loop _]
    show wpAny _ A.in1 (pyNext (.ref I) >>= _) _ _ s
    refine wpAny_bind (W.done s _ _ st fun s' m => ?_)
    exact wpAny_pure (hR s' (m.mono up) (T.at fun o q => m.heap S o hw q))
  | succ k ih =>
    intro i s hk hi st T hR
    have lt : i < n := by omega
    refine codeAny_builtin PyProof.Rows.F.entry_set_update_loop ?_
    rw [Around.under_plainId PyProof.Rows.F.plain_set_update_loop _]
    show wpAny _ A.in1 (pyNext (.ref I) >>= _) _ _ s
    refine wpAny_bind (W.item i s _ _ lt st fun v s1 hP st1 m1 => ?_)
    obtain ⟨x, t, ex, rfl⟩ := hv i v hP
    have T1 : TSet P w S (tAll (xs.take i)) s1.heap := T.at fun o q => m1.heap S o hw q
    have room : (tAll (xs.take i)).length + 1 < scanBound := by
      have a := tAll_len (xs.take i)
      have b := List.length_take_le i xs
      omega
    show wpAny _ A.in1 (holding [Value.str x t] (setAdd S (.str x t)) >>= _) _ _ s1
    refine wpAny_bind (wpAny_holding (tx_add T1 room fun b h2 tk htk T2 k2 => ?_))
    have e : tAll (xs.take (i + 1)) = tAdd (tAll (xs.take i)) x := by
      rw [List.take_add_one, ex]
      exact tAll_snoc _ _
    rw [← e] at T2
    refine wpAny_pure ⟨plainId_quiet PyProof.Rows.F.plain_set_update_loop _, ih (i + 1) _ (by omega) lt (W.frame _ s1 _ _ st1 htk fun c hc o q => k2 c o (fun z => hS (z ▸ hc)) q) T2 fun s3 m3 T3 => ?_⟩
    exact hR s3 (Moved.trans W.gtrans ((m1.mono up).then_heap htk fun c o hc q => k2 c o (fun z => hc (z ▸ List.mem_cons_self)) q) m3) T3
end
end LH

namespace LH
open PySem PySem.Spec PyProof.Rows L2
/-- as many and the same members, of which one list has none twice -/
theorem perm_sub : ∀ (l m : List Str), l.Nodup → m.length = l.length → (∀ x ∈ l, x ∈ m) → m.Perm l
  | [], m, _, h, _ => by rw [List.length_eq_zero_iff.mp h]
  | x :: r, m, nd, h, hs => by
    obtain ⟨n1, n2⟩ := List.nodup_cons.mp nd
    have hx := hs x List.mem_cons_self
    refine (List.perm_cons_erase hx).trans (List.Perm.cons x (perm_sub r (m.erase x) n2 ?_ fun y hy => ?_))
    · rw [List.length_erase_of_mem hx, h]
      rfl
    · have hne : y ≠ x := fun e => n1 (e ▸ hy)
      exact (List.mem_erase_of_ne hne).mpr (hs y (List.mem_cons_of_mem _ hy))
theorem TSet.perm {l m : List Str} (nd : l.Nodup) (hl : m.length = l.length) (hm : ∀ x, x ∈ l ↔ x ∈ m) : m.Perm l := perm_sub l m nd hl fun x hx => (hm x).mp hx
/-- a new set -/
abbrev set0 (w : World) : Obj := { cls := .type "set", dict := none, data := .set #[] 0 (.fresh 0 0 (!w.params.followText "set-order")) }
section
variable {P : Program} {w : World} {A : Around} {E : Value → Shared → Prop} {s : Shared}
theorem set_made (a : Value) {Q₁ : Value → Shared → Prop} (h : Q₁ (.ref s.heap.objs.size) { s with heap := s.heap.push (set0 w) }) :
    codeAny (model P w) A (.call (.builtin "set.__new__") ⟨[.type "set", a], []⟩) (wants Q₁ E) s := by
  refine codeAny_of_tree ?_
  show wpAny _ A.in1 (checkBuiltinCall "set.__new__" ⟨[.type "set", a], []⟩ >>= fun _ => again (.builtin "set.__new__" ⟨[.type "set", a], []⟩)) _ _ s
  refine wpAny_bind (wpAny_of_eq (PySem.F.newCall_set_1 a) (wpAny_pure ⟨plainId_quiet PySem.F.plain_set_new _, codeAny_builtin PySem.F.entry_set_new ?_⟩))
  rw [Around.under_plainId PySem.F.plain_set_new _]
  unfold Builtin.«set.__new__» Builtin.Frozenset.newClass
  have sb := sub_set_self
  obtain ⟨hp, g, d, tk, os⟩ := s
  dsimp only
  wp_walk
  refine wpAny_askSetting (wpAny_pure ?_)
  dsimp only
  simp only [newObj]
  exact wpAny_bind (wpAny_alloc (wpAny_pure (wpAny_pure h)))
theorem tset_new {h h' : Heap} (e : h'.get? h.objs.size = some (set0 w)) : TSet P w h.objs.size [] h' :=
  ⟨List.nodup_nil, (#[], 0, .fresh 0 0 (!w.params.followText "set-order")), e, Froz.TxOk.nil (by rfl), List.Pairwise.nil, by
    show _ ∨ (!w.params.followText "set-order") = true
    cases w.params.followText "set-order"
    · exact .inr rfl
    · exact .inl rfl⟩
set_option maxHeartbeats 4000000 in
/-- set(xs) of a list of texts -/
theorem call_setT {l : Addr} {items : Array Value} {xs : List Str} {Q : Value → Shared → Prop} (hh : A.handled = none) (hl : s.heap.IsList l items) (hi : StrsAre items.toList xs) (hb : items.size + 1 < scanBound)
    (h : ∀ (h' : Heap) (tk : Nat), TSet P w s.heap.objs.size (tAll xs) h' → (∀ b o, b < s.heap.objs.size → s.heap.get? b = some o → h'.get? b = some o) → Q (.ref s.heap.objs.size) { s with heap := h', toks := tk }) :
    wpAny (model P w) A (call (.type "set") [.ref l]) Q E s := by
  obtain ⟨c, tl, hmro⟩ := PySem.F.called_set.mro
  have hmade := PySem.F.called_set.made
  have hsub := PySem.F.called_set.sub
  refine wpAny_call (codeAny_of_tree ?_)
  show wpAny _ _ (callAny (.type "set") _) _ _ _
  refine wpAny_pure ⟨Code.quiet_builtin _ (by decide +kernel), codeAny_builtin PySem.F.entry_type_call ?_⟩
  rw [Around.under_plain (weight_type_call_type "set" [.ref l] []) rfl]
  have h1 := PySem.F.called_set.notType
  have h2 := PySem.F.called_set.canCreate
  have hct := PySem.F.typeCall_set_1 (.ref l)
  repeat (any_goals (first | assumption | wp_step))
  refine codeAny_mono (set_made (.ref l) (E := E) (Q₁ := fun obj s₁ => obj = .ref s.heap.objs.size ∧ s₁ = { s with heap := s.heap.push (set0 w) }) ⟨rfl, rfl⟩) fun r s₁ hr => ?_
  cases r with
  | error e => exact hr
  | ok fl =>
    cases fl with
    | ret obj =>
      obtain ⟨rfl, rfl⟩ := hr
      have hS : (s.heap.push (set0 w)).get? s.heap.objs.size = some (set0 w) := Heap.get?_push_size _ rfl
      have hT : Shared.TypeIs { s with heap := s.heap.push (set0 w) } (.ref s.heap.objs.size) "set" := ⟨_, hS, rfl⟩
      have hli := PySem.F.called_set.init.lookup
      have hbi := PySem.F.called_set.init.bind (.ref s.heap.objs.size)
      repeat (any_goals (first | assumption | wp_step))
      refine codeAny_mono (codeAny_call_builtin (R := wants (fun r s₂ => r = .none ∧ ∃ h' tk, s₂ = { s with heap := h', toks := tk } ∧ TSet P w s.heap.objs.size (tAll xs) h' ∧
          (∀ b o, b < s.heap.objs.size → s.heap.get? b = some o → h'.get? b = some o)) E) PySem.F.called_set.init.plain PySem.F.entry_set_init (check_set_init_1 hT ?_)) fun r₂ s₂ hr₂ => ?_
      · obtain ⟨ol, hol, hcl, nl, hdl⟩ := hl
        obtain ⟨ocls, odict, odata, oslots⟩ := ol
        simp only at hcl hdl
        subst hcl
        subst hdl
        have hol' : (s.heap.push (set0 w)).get? l = some { cls := .type "list", dict := odict, data := .seq items nl, slots := oslots } := Heap.get?_push_of_some _ hol
        have hsls := PySem.F.sub_list_set
        have hslf := PySem.F.sub_list_frozenset
        have hne : (Value.type "list" == Value.type "dict") = false := by decide
        have hl1 : (s.heap.push (set0 w)).IsList l items := ⟨_, hol', rfl, nl, rfl⟩
        unfold Builtin.«set.__init__» noKeywords Builtin.Frozenset.updateFrom
        generalize hPI : pyIter = PI
        wp_walk
        subst hPI
        refine wpAny_pyIter_list hl1 (wpAny_bind (wpAny_runValue ?_))
        have lS : l < s.heap.objs.size := Heap.lt_size hol
        have eS : (s.heap.push (set0 w)).objs.size = s.heap.objs.size + 1 := Heap.size_push ..
        have neI : l ≠ (s.heap.push (set0 w)).objs.size := by
          rw [eS]
          exact Nat.ne_of_lt (Nat.lt_succ_of_lt lS)
        have out : s.heap.objs.size ∉ [(s.heap.push (set0 w)).objs.size, l] := fun z => by
          rcases List.mem_cons.mp z with z | z
          · rw [eS] at z
            exact absurd z (Nat.ne_of_lt (Nat.lt_succ_self _))
          · exact absurd (List.mem_singleton.mp z) (Nat.ne_of_gt lS)
        have hsz : xs.length = items.size := by rw [← StrsAre.len_eq hi, Array.length_toList]
        have hv : ∀ (i : Nat) (v : Value), items[i]? = some v → ∃ x t, xs[i]? = some x ∧ v = .str x t := fun i v q => by
          have hil : i < xs.length := by
            rw [hsz]
            exact (Array.getElem?_eq_some_iff.mp q).1
          obtain ⟨t, e⟩ := SS.strs_at hi i v (by rw [Array.getElem?_toList]; exact q)
          refine ⟨_, t, ?_, e⟩
          rw [List.getD_eq_getElem?_getD, List.getElem?_eq_getElem hil]
          rfl
        refine tx_loop ((Walks.list (by show A.in1.in1.in1.handled = none; simp [hh]) _ l neI items).toS) s.heap.objs.size out xs hsz hb hv items.size 0 _ (by omega) (Nat.zero_le _) ⟨⟨_, Heap.get?_push_size _ rfl, rfl, rfl⟩, hl1.push _⟩ ?tx1 ?tx2
        case tx1 => exact tset_new (h := s.heap) (Heap.get?_push_of_some _ hS)
        case tx2 =>
          intro s' m T
          obtain ⟨h', g', d', tk', os'⟩ := s'
          obtain rfl : g' = s.gens := m.gens
          obtain rfl : d' = s.drawn := m.drawn
          obtain rfl : os' = s.os := m.os
          refine wpAny_pure (wpAny_pure ⟨rfl, h', tk', rfl, T, fun b o q e => ?_⟩)
          refine m.heap b o (fun z => ?_) (Heap.get?_push_of_some _ (Heap.get?_push_of_some _ e))
          rcases List.mem_cons.mp z with z | z
          · exact absurd z (Nat.ne_of_lt q)
          · have z := List.mem_singleton.mp z
            rw [eS] at z
            exact absurd z (Nat.ne_of_lt (Nat.lt_succ_of_lt q))
      · cases r₂ with
        | error e => exact hr₂
        | ok fl₂ =>
          cases fl₂ with
          | ret r =>
            obtain ⟨rfl, h', tk, rfl, T, hk⟩ := hr₂
            repeat (any_goals (first | assumption | wp_step))
            exact h _ _ T hk
          | _ => exact hr₂.elim
    | _ => exact hr.elim
/-- sorted(found) of a set of texts -/
theorem call_sortedT {a : Addr} {l : List Str} {Q : Value → Shared → Prop} (T : TSet P w a l s.heap) (hh : A.handled = none) (hb : l.length < scanBound)
    (hQ : ∀ s' p (out : Array Value) (c : Nat) (ys : List Str), (∀ b o, s.heap.get? b = some o → s'.heap.get? b = some o) → s'.gens = s.gens → s'.os = s.os → s.heap.objs.size ≤ p →
      s'.heap.get? p = some (seqObj "list" out c) → StrsAre out.toList ys → ys.Perm l → sortedS ys = true → Q (.ref p) s') :
    wpAny (model P w) A (call (.builtin "sorted") [.ref a]) Q E s := by
  obtain ⟨nd, D, ho, F, r, hl⟩ := T
  have hsz : D.1.size < scanBound := by rw [F.sz]; exact hb
  refine Calls.call_function_entry kind_sorted plain_sorted entry_sorted (args_sorted1 _) ?_
  unfold Builtin.«sorted»
  refine wpAny_bind (m := checkCount "sorted" 1 1 _) (wpAny_pure ?_)
  refine wpAny_bind (collect_set (A := A.in1) (es := D.1) (ep := D.2.1) (t := D.2.2) hh ⟨_, ho, rfl, rfl⟩ F.fit hsz r hl fun s1 vs k1 hz g1 o1 pm => ?_)
  have all : ∀ v ∈ vs, ∃ x t, v = Value.str x t := fun v hv => by
    obtain ⟨e, he, rfl⟩ := List.mem_map.mp (pm.mem_iff.mp hv)
    obtain ⟨⟨k, hk, _⟩, _⟩ := F.el e he
    have hk : Value.isStrOf k e.2 = true := hk
    cases q : e.2 with
    | str x t => exact ⟨x, t, rfl⟩
    | _ =>
      rw [q] at hk
      cases hk
  have hS : StrsAre vs (vs.map strOf) := strsAre_map vs all
  have hvl : vs.length ≤ sizeLine := by
    rw [pm.length_eq, List.length_map, Array.length_toList]
    exact fits_of_scanBound hsz
  refine wpAny_bind (wpAny_newList ?_ hvl)
  have hoL : (s1.heap.push (seqObj "list" vs.toArray 0)).get? s1.heap.objs.size = some (seqObj "list" vs.toArray 0) := Heap.get?_push_size _ rfl
  refine wpAny_bind (wpAny_holding (wpAny_call_entry slot_list_sort ⟨_, hoL, rfl⟩ entry_list_sort (list_sort_treeKAny strKind_oneLt hoL hS.keysOf (fun v₁ v₂ rest e => keyKind_strs (by rw [← e]; exact hS)) hvl fun st' hp hs => ⟨_, rfl, ?_⟩) (args_list_sort _)))
  obtain ⟨ys, a1, a2, a3⟩ := sorted_out_str hS hp hs
  obtain ⟨c, hc⟩ := sortedHeap_at (vs := vs) (out := (arrOf st').map (·.2)) hoL
  refine wpAny_pure ⟨_, rfl, hQ _ s1.heap.objs.size _ c ys (fun b u e => ?_) g1 o1 hz hc a1 (a2.trans ?_) a3⟩
  · have q := k1 b u e
    have hlt := Heap.lt_size q
    refine (sortedHeap_old (Nat.ne_of_lt hlt) ?_).trans (Heap.get?_push_of_some _ q)
    exact Nat.lt_of_lt_of_eq (Nat.lt_succ_of_lt hlt) (size_push' ..).symm
  · -- the texts of the entries are just l
    have p1 : (vs.map strOf).Perm (D.1.toList.map fun e => strOf e.2) := by
      have q := pm.map strOf
      rw [List.map_map] at q
      exact q
    have key : ∀ e ∈ D.1.toList, ∀ k : Str, (PySem.strKind P w).is k e.2 = true ↔ strOf e.2 = k := fun e he k => by
      obtain ⟨⟨k0, hk0, _⟩, _⟩ := F.el e he
      have e0 : strOf e.2 = k0 := by
        have hk0 : Value.isStrOf k0 e.2 = true := hk0
        cases q : e.2 with
        | str x t =>
          rw [q] at hk0
          have : (x == k0) = true := by simpa [Value.isStrOf] using hk0
          exact eq_of_beq this
        | _ =>
          rw [q] at hk0
          cases hk0
      constructor
      · intro hk
        rw [e0]
        exact (PySem.strKind P w).inj e.2 k0 k hk0 hk
      · intro hk
        rw [← hk, e0]
        exact hk0
    refine p1.trans (TSet.perm nd ?_ fun x => ?_)
    · rw [List.length_map, Array.length_toList]
      exact F.sz
    · rw [F.mem x, List.mem_map]
      constructor
      · rintro ⟨e, he, q⟩
        exact ⟨e, he, (key e he x).mp q⟩
      · rintro ⟨e, he, q⟩
        exact ⟨e, he, (key e he x).mpr q⟩
end
end LH

namespace LH
open PySem PySem.Spec PyProof.Rows L2
/-- an expression that changes nothing, by its value -/
def tPure (t : TE) : TE := fun σ H Q => ∃ v, t σ H (fun x H' => x = v ∧ H' = H) ∧ Q v H
theorem pe_pure {X : Cx} {e : Expr} {t : TE} (h : PE X e t) : PE X e (tPure t) := by
  refine ⟨fun pins s σ H Q I q => ?_⟩
  obtain ⟨v, h1, h2⟩ := q
  refine thn (h.run pins s σ H _ I h1) fun u s1 ⟨x, H1, I1, r, e1, e2⟩ => ?_
  subst e1
  subst e2
  exact ⟨x, H1, I1, r, h2⟩
/-! ### a new pair at each turn -/
def Itp (n : Nat) (xs ys : Nat → Option V) : It := ⟨fun i _ => i < n, YPair xs ys, fun i _ => i = n⟩
theorem walk_Itp {n : Nat} {xs ys : Nat → Option V} : Walk (Itp n xs ys) n (fun _ => True) (YPair xs ys) := ⟨fun _ _ h _ => h, fun _ _ => rfl, fun _ _ _ _ _ _ y => y⟩
/-- a walk that hands out pairs of its own, as a turn -/
theorem turn_T {P : Program} {w : World} {K : PySem.W.Frag} {elts : List Expr} {kk n : Nat} {tpos : Pos} {xs ys : Nat → Option V} {it : Addr} {fp wr : List Addr} {Pt : Nat → Array Value → Prop} {St : Nat → Heap → Prop} {Mid : Nat → Addr → Heap → Prop}
    (W : ∀ A : Around, A.handled = none → WalksT P w A it fp wr n Pt St Mid) (hit : it ∈ fp) (ob : ∀ i h, St i h → ∀ b ∈ fp, ∃ o, h.get? b = some o ∧ ∀ v, o.data ≠ .cell v)
    (hp : ∀ i vals, Pt i vals → ∃ x y u v, vals = #[u, v] ∧ xs i = some x ∧ ys i = some y ∧ RelV x u ∧ RelV y v)
    (sf : ∀ (A : Around) (i : Nat) (s : Shared) (Q : Value → Shared → Prop) (E : Value → Shared → Prop), St i s.heap → Q (.ref it) s → wpAny (model P w) A (pyIter (.ref it)) Q E s) :
    Turn P w K (.Tuple elts kk tpos) (Itp n xs ys) fp it St where
  mem := hit
  obj := ob
  keep := fun i h h' st k => (W {} rfl).frame i h h' st k
  item := by
    intro X hP hw hK hc i pins s σ H E I hf st hg
    subst hP hw hK
    have W0 := W X.A (I.ok.hd hc)
    refine W0.item i s _ _ hg st fun T vals h1 tk hv hT tup mid k1 => ?_
    obtain ⟨x, y, u, v, rfl, ex, ey, rx, ry⟩ := hp i vals hv
    refine ⟨_, rfl, W0.go elts kk tpos i T _ _ _ mid fun h2 st2 k2 => ?_⟩
    have tup2 : h2.IsTuple T #[u, v] := tup.at fun o q => k2 T o (W0.apart i T h1 mid) q
    have I1 : Inv X pins σ (upd H T (.tup [x, y])) { s with heap := h2, toks := tk } :=
      I.turnedNew (ch := wr) (fun b o hb q => k2 b o hb (k1 b o hb q)) (fun b hb => hf b (W0.sub b hb)) hT ⟨by show 2 ≤ sizeLine; decide, [u, v], .cons rx (.cons ry .nil), tup2⟩
    refine ⟨.ref T, _, I1, rfl, ⟨T, x, y, rfl, I.hok.fresh hT, rfl, ex, ey⟩, st2, fun b hb => ?_⟩
    obtain ⟨o, q, _⟩ := ob i s.heap st b hb
    rw [upd_ne (Nat.ne_of_lt (Nat.lt_of_lt_of_le (Heap.lt_size q) hT))]
    exact (hf b hb).1
  done := by
    intro X hP hw hK hc i pins s σ H E I hf st hg
    subst hP hw hK
    have W0 := W X.A (I.ok.hd hc)
    obtain rfl : i = n := hg
    exact W0.done s _ _ st fun h1 tk k1 => ⟨rfl, I.turnedL (ch := wr) (fun b o hb q => k1 b o hb q) fun b hb => hf b (W0.sub b hb)⟩
  self := sf
/-! ### enumerate(text) -/
def signAt (z : Str) (i : Nat) : Option V := (z.cps[i]?).map fun c => .str ⟨#[c]⟩
def iEnumS (ta : TA) : TI := fun σ H R => ta σ H fun vs H1 => ∃ z : Str, vs = [.str z] ∧ R (Itp z.cps.size (fun i => some (.int (i : Nat))) (signAt z)) H1
theorem pi_enumS {X : Cx} {e : Expr} {ta : TA} {p pos tpos : Pos} {elts : List Expr} {kk : Nat} (hg : Gl X "enumerate") (hm : X.mg "enumerate" = none) (ha : PA X [e] ta) (hs : starEach [e] X.env = [(false, eval e X.env)] := by rfl) :
    PI X (.Tuple elts kk tpos) (.Call (.Name "enumerate" p) [e] [] pos) (iEnumS ta) := by
  refine ⟨fun pins s σ H R I h => ?_⟩
  refine Call_ (ld_blt I hg hm boot_enumerate (PyProof.Rows.callWith_type1 (thn (ha.run pos pins s σ H _ I h) fun us s1 ⟨vs, H1, I1, r1, q1⟩ => ?_) hs rfl))
  obtain ⟨z, ex, q⟩ := q1
  subst ex
  obtain ⟨u, rfl, rx⟩ := vals1 r1
  obtain ⟨t, rfl⟩ := rx
  refine call_enumerate_str fun h1 he hi hsz k1 => wpAny_pyIter_enum he ?_
  have I2 : Inv X pins σ H1 { s1 with heap := h1 } := I1.kept (t' := s1.toks) k1
  have hne : s1.heap.objs.size + 1 ≠ s1.heap.objs.size := Nat.succ_ne_self _
  refine ⟨s1.heap.objs.size + 1, [s1.heap.objs.size + 1, s1.heap.objs.size], _, _, H1, rfl, I2,
    turn_T (St := fun i h => (∃ old, IsEnum h (s1.heap.objs.size + 1) s1.heap.objs.size i old) ∧ h.IsStrIter s1.heap.objs.size (strIterType z) z t i)
      (fun A hA => WalksT.enumerateD (Draws.text (A := A.in1) hA s1.heap.objs.size z t) (s1.heap.objs.size + 1) hne (by simp) (by simp)) (by simp) (fun i h st b hb => ?_) (fun i vals hv => ?_) (fun A i s Q E st hQ => ?_), ⟨⟨.none, he⟩, hi⟩, fun b hb => ?_, q⟩
  · obtain ⟨⟨old, e1⟩, ⟨o, e2, c2, d2⟩⟩ := st
    have e' : b = s1.heap.objs.size + 1 ∨ b = s1.heap.objs.size := by simpa using hb
    rcases e' with y | y
    · rw [y]
      exact ⟨_, e1, fun v q => nomatch q⟩
    · rw [y]
      exact ⟨o, e2, fun v q => by rw [d2] at q; cases q⟩
  · obtain ⟨t', x, ⟨c, u, hc, rfl⟩, rfl⟩ := hv
    refine ⟨.int (i : Nat), .str ⟨#[c]⟩, _, _, rfl, rfl, ?_, ⟨_, rfl⟩, ⟨_, rfl⟩⟩
    unfold signAt
    rw [hc]
    rfl
  · obtain ⟨⟨old, e1⟩, _⟩ := st
    exact wpAny_pyIter_enum e1 hQ
  · have e' : b = s1.heap.objs.size + 1 ∨ b = s1.heap.objs.size := by simpa using hb
    have hle : s1.heap.objs.size ≤ b := by
      rcases e' with y | y
      · rw [y]
        exact Nat.le_add_right _ _
      · rw [y]
        exact Nat.le_refl _
    exact I1.fpOk hle (I1.hok.fresh hle)
/-! ### the set rules -/
/-- the set of the texts l at a -/
def SetT (P : Program) (w : World) (a : Addr) (l : List Str) : HO := .ext (TSet P w a l)
section
variable {X : Cx}
theorem setT_new {P : Program} {w : World} {H : Hp} {h : Heap} {a : Addr} {l : List Str} (T : TSet P w a l h) : ObjOk P w H h a (SetT P w a l) := by
  have ⟨_, D, e, _⟩ := T
  exact ⟨T, ⟨_, e⟩, fun h1 h2 p k => p.at k⟩
/-- set(xs), texts; the set stays nowhere but here -/
def rSetL (P : Program) (w : World) (K : PySem.W.Frag) : List V → Hp → VK → Prop := fun xs H Q => ∃ (a : Addr) (ys : List Str), xs = [.ref a] ∧ SqL K H a (ys.map V.str) ∧ ys.length ≤ 4000 ∧ ∀ p, H p = none → Q (.ref p) (upd H p (SetT P w p (tAll ys)))
theorem cr_setL (hc : X.calm = true) : CallR X (.type "set") (rSetL X.prog X.w X.K) := by
  intro pins s σ H xs us Q I r h
  obtain ⟨a, ys, rfl, hs, hl, q⟩ := h
  obtain ⟨its, rv, pl, _⟩ := I.list hs
  rw [Vals.ref1 r]
  have hlen := rv.length
  rw [List.length_map] at hlen
  refine call_setT (I.ok.hd hc) pl.isList (by simpa using rv.strs) (by rw [List.size_toArray, ← hlen]; unfold scanBound; omega) fun h1 tk T k1 => ?_
  refine ⟨.ref s.heap.objs.size, _, I.laid (t' := tk) (fun b o e => k1 b o (Heap.lt_size e) e) (Nat.le_refl _) (setT_new T), rfl, q _ (I.hok.fresh (Nat.le_refl _))⟩
/-- sorted(found) -/
def rSortT (P : Program) (w : World) : List V → Hp → VK → Prop := fun xs H Q => ∃ (a : Addr) (l : List Str), xs = [.ref a] ∧ H a = some (SetT P w a l) ∧ l.length ≤ 4000 ∧ ∀ ys p, ys.Perm l → sortedS ys = true → H p = none → Q (.ref p) (upd H p (.lst (ys.map V.str)))
theorem cr_sortT (hc : X.calm = true) : CallR X (.builtin "sorted") (rSortT X.prog X.w) := by
  intro pins s σ H vs us Q I r h
  obtain ⟨a, l, rfl, ha, hl, q⟩ := h
  have T : TSet X.prog X.w a l s.heap := (I.hok a _ ha).1
  rw [Vals.ref1 r]
  refine call_sortedT T (I.ok.hd hc) (by unfold scanBound; omega) fun s' p out c ys k g o hp hg hi pm hs => ?_
  have hlen : (ys.map V.str).length ≤ sizeLine := by
    rw [List.length_map, pm.length_eq]
    exact Nat.le_trans hl (by decide)
  have hn : H p = none := I.hok.fresh hp
  have J : Inv X pins σ (upd H p (.lst (ys.map V.str))) { s with heap := s'.heap, gens := s'.gens, drawn := s'.drawn, toks := s'.toks } :=
    I.call (ch := []) (Un.laid k hp hn) (I.hok.laid k hp ⟨hlen, out.toList, c, vals_of_strs hi, hg⟩) (by rw [g]; exact I.bare) (fun _ z => nomatch z)
  have e : s' = { s with heap := s'.heap, gens := s'.gens, drawn := s'.drawn, toks := s'.toks } := by
    cases s'
    cases s
    cases o
    rfl
  rw [e]
  exact ⟨.ref p, _, J, rfl, q ys p pm hs hn⟩
end
section
variable {X : Cx} (P : Program) (w : World) (K : PySem.W.Frag) (hP : X.prog = P) (hw : X.w = w) (hK : X.K = K) (hc : X.calm = true)
include hP hw hc
theorem cr_sortTK : CallR X (.builtin "sorted") (rSortT P w) := by subst hP hw; exact cr_sortT hc
include hK
theorem cr_setLK : CallR X (.type "set") (rSetL P w K) := by subst hP hw hK; exact cr_setL hc
end
/-! ### what is sorted and has no text twice is told by its members -/
theorem sortedS_pw : ∀ {l : List Str}, sortedS l = true → l.Pairwise fun a b => ltCps b.cps.toList a.cps.toList = false := by
  have tr : ∀ a b c : List Nat, ltCps b a = false → ltCps c b = false → ltCps c a = false := fun a b c h1 h2 => by
    rw [ltCps_eq] at h1 h2 ⊢
    have h1 := of_decide_eq_false h1
    have h2 := of_decide_eq_false h2
    exact decide_eq_false fun h => h1 (Std.lt_of_le_of_lt (Std.not_lt.mp h2) h)
  have go : ∀ (l : List Str) (p : Str), risingS p l = true → (p :: l).Pairwise fun a b => ltCps b.cps.toList a.cps.toList = false := by
    intro l
    induction l with
    | nil => intro p _; exact List.pairwise_singleton _ _
    | cons x r ih =>
      intro p h
      have h : (!ltCps x.cps.toList p.cps.toList && risingS x r) = true := h
      rw [Bool.and_eq_true] at h
      have i := ih x h.2
      have h1 : ltCps x.cps.toList p.cps.toList = false := by simpa using h.1
      refine List.Pairwise.cons (fun y hy => ?_) i
      rcases List.mem_cons.mp hy with rfl | hy
      · exact h1
      · exact tr _ _ _ h1 (List.rel_of_pairwise_cons i hy)
  intro l h
  cases l with
  | nil => exact List.Pairwise.nil
  | cons x r => exact go r x h
theorem sorted_one {l m : List Str} (h1 : sortedS l = true) (h2 : sortedS m = true) (p : l.Perm m) : l = m := by
  refine List.Perm.eq_of_pairwise (le := fun a b => ltCps b.cps.toList a.cps.toList = false) (fun a b _ _ q1 q2 => ?_) (sortedS_pw h1) (sortedS_pw h2) p
  rw [ltCps_eq] at q1 q2
  have q1 := of_decide_eq_false q1
  have q2 := of_decide_eq_false q2
  have e : a.cps.toList = b.cps.toList := Std.le_antisymm (Std.not_lt.mp q1) (Std.not_lt.mp q2)
  obtain ⟨⟨a⟩⟩ := a
  obtain ⟨⟨b⟩⟩ := b
  have e : a = b := e
  rw [e]
end LH

namespace LU
open PySem PySem.Spec PyProof.Rows
/-! ### dicts whose keys are None, numbers, texts and tuples of these, nested -/
abbrev Row3 := NestedKey × Value × Value
def ent (w : World) (x : Row3) : DictEntry := ⟨x.1.hash w, x.2.1, x.2.2⟩
structure UD (w : World) (h : Heap) (d : Addr) (xs : List Row3) (o : Obj) (es : Array DictEntry) (ep : Nat) : Prop where
  get : h.get? d = some o
  exact_ : o.ExactDict
  data : o.data = .dict es ep
  ents : es.toList = xs.map (ent w)
  keys : ∀ x ∈ xs, NestedIs h x.1 x.2.1 ∧ x.1.depth ≤ 8
  nd : (xs.map (·.1)).Nodup
def pos (xs : List Row3) (k : NestedKey) : Option Nat := xs.findIdx? fun x => decide (x.1 = k)
theorem pos_some {xs : List Row3} (nd : (xs.map (·.1)).Nodup) {i : Nat} {x : Row3} (h : xs[i]? = some x) : pos xs x.1 = some i := by
  unfold pos
  rw [List.findIdx?_eq_some_iff_getElem]
  obtain ⟨hi, e⟩ := List.getElem?_eq_some_iff.mp h
  refine ⟨hi, by rw [e]; exact decide_eq_true rfl, fun j hj => ?_⟩
  have hjl : j < xs.length := Nat.lt_trans hj hi
  intro q
  have q : xs[j].1 = x.1 := of_decide_eq_true q
  have a1 : (xs.map (·.1))[j]? = some x.1 := by rw [List.getElem?_map, List.getElem?_eq_getElem hjl, Option.map_some, q]
  have a2 : (xs.map (·.1))[i]? = some x.1 := by rw [List.getElem?_map, h]; rfl
  have := (List.getElem?_inj (by rw [List.length_map]; exact hjl) nd).mp (a1.trans a2.symm)
  omega
theorem pos_none {xs : List Row3} {k : NestedKey} (h : ∀ x ∈ xs, ¬ x.1 = k) : pos xs k = none := List.findIdx?_eq_none_iff.mpr fun x hx => decide_eq_false (h x hx)
section
variable {prog : Program} {w : World} {A : Around} {E : Value → Shared → Prop} {s : Shared} {d : Addr} {xs : List Row3} {o : Obj} {es : Array DictEntry} {ep : Nat} {k : NestedKey} {key : Value}
theorem UD.at_ {h : Heap} (u : UD w h d xs o es ep) (j : Nat) : es[j]? = (xs[j]?).map (ent w) := by
  rw [← Array.getElem?_toList, u.ents, List.getElem?_map]
theorem UD.size {h : Heap} (u : UD w h d xs o es ep) : es.size = xs.length := by
  rw [← Array.length_toList, u.ents, List.length_map]
/-- where a key of this hash may stand -/
abbrev plc (es : Array DictEntry) (h : Int) : List Nat := placesWithHash es.size (fun i => es[i]?.map (·.hash)) h
theorem mem_plc {h : Heap} (u : UD w h d xs o es ep) {j : Nat} {x : Row3} (e : xs[j]? = some x) : j ∈ plc es (x.1.hash w) := by
  refine List.mem_filter.mpr ⟨List.mem_range.mpr ?_, ?_⟩
  · rw [u.size]
    exact (List.getElem?_eq_some_iff.mp e).1
  · show ((es[j]?.map (·.hash)) == some (x.1.hash w)) = true
    rw [u.at_, e]
    exact beq_self_eq_true _
theorem nd_plc (es : Array DictEntry) (h : Int) : (plc es h).Nodup := List.nodup_range.filter _
/-- the way through the places, all by value -/
theorem walk_plain {Q : Option Nat → Shared → Prop} (hu : A.units + 8 < cLine) (u : UD w s.heap d xs o es ep) (hk : NestedIs s.heap k key) (hd8 : k.depth ≤ 8) (h : Q (pos xs k) s) :
    wpAny (model prog w) A (dictWalkPlain d key (k.hash w) es (plc es (k.hash w))) Q E s := by
  unfold dictWalkPlain
  refine wpAny_bind ?_
  refine wpAny_forIn_list _ (fun rest b s' => s' = s ∧ b = (none, ()) ∧ ∀ (j : Nat) (x : Row3), xs[j]? = some x → x.1 = k → j ∈ rest) _ ?_ ?_ _ _ ⟨rfl, rfl, fun j x e ek => by rw [← ek]; exact mem_plc u e⟩
  · rintro i rest b s' ⟨rfl, rfl, hr⟩
    rw [u.at_]
    cases hx : xs[i]? with
    | none =>
      refine wpAny_pure ⟨rfl, rfl, fun j x e ek => ?_⟩
      rcases List.mem_cons.mp (hr j x e ek) with rfl | q
      · rw [hx] at e
        cases e
      · exact q
    | some y =>
      have on : ¬ y.1 = k → ∀ (j : Nat) (x : Row3), xs[j]? = some x → x.1 = k → j ∈ rest := fun ne j x e ek => by
        rcases List.mem_cons.mp (hr j x e ek) with rfl | q
        · rw [hx] at e
          cases e
          exact absurd ek ne
        · exact q
      dsimp only [Option.map_some]
      by_cases hh : ((ent w y).hash == k.hash w) = true
      · rw [if_pos hh]
        have hy := u.keys y (List.mem_of_getElem? hx)
        refine wpAny_bind (wpAny_dictEpoch u.get u.data (wpAny_bind (eqAt_key y.1 k A s' _ _ hy.1 hk (by omega) _ _ _ _ (wpAny_bind (wpAny_dictEpoch u.get u.data ?_)))))
        show wpAny _ _ (if (ep != ep) = true then _ else _) _ E _
        rw [if_neg (by simp), ← NestedKey.decide_eq]
        by_cases e : y.1 = k
        · rw [decide_eq_true e]
          subst e
          rw [pos_some u.nd hx] at h
          exact wpAny_bind (wpAny_rule (wpAny_pure (wpAny_pure h)))
        · rw [decide_eq_false e]
          exact wpAny_bind (wpAny_rule (wpAny_pure ⟨rfl, rfl, on e⟩))
      · rw [if_neg hh]
        refine wpAny_pure ⟨rfl, rfl, on fun e => hh ?_⟩
        show (y.1.hash w == k.hash w) = true
        rw [e]
        exact beq_self_eq_true _
  · rintro b s' ⟨rfl, rfl, hr⟩
    rw [pos_none fun x hx e => ?_] at h
    · exact wpAny_pure h
    · obtain ⟨j, hj⟩ := List.mem_iff_getElem?.mp hx
      cases hr j x hj e
end
end LU
namespace LU
open PySem PySem.Spec PyProof.Rows
section
variable {prog : Program} {w : World} {A : Around} {E : Value → Shared → Prop} {s : Shared} {d : Addr} {xs : List Row3} {o : Obj} {es : Array DictEntry} {ep : Nat} {k : NestedKey} {key : Value}
theorem fi_congr {p q : Row3 → Bool} : ∀ {xs : List Row3}, (∀ x ∈ xs, p x = q x) → xs.findIdx? p = xs.findIdx? q
  | [], _ => rfl
  | x :: r, h => by
    rw [List.findIdx?_cons, List.findIdx?_cons, h x List.mem_cons_self, fi_congr fun y hy => h y (List.mem_cons_of_mem _ hy)]
theorem found_val {x : Str} {t : Tok} {Q : Option Nat → Shared → Prop} (hu : A.units + 8 < cLine) (u : UD w s.heap d xs o es ep) (hs : ∀ y ∈ xs, isExactStrKey y.2.1 = true) (h : Q (pos xs (.text x)) s) :
    wpAny (model prog w) A (foundByValue d (.str x t) es x) Q E s := by
  have same : ∀ y ∈ xs, y.2.1.isStr x = decide (y.1 = .text x) := fun y hy => by
    have a := hs y hy
    have b := (u.keys y hy).1
    obtain ⟨k', v', z⟩ := y
    cases b with
    | text x' t' =>
      by_cases e : x' = x
      · subst e
        simp [Value.isStr]
      · have : ¬ NestedKey.text x' = NestedKey.text x := fun q => e (by injection q)
        rw [decide_eq_false this]
        simp [Value.isStr, e]
    | none => simp [isExactStrKey] at a
    | bool _ => simp [isExactStrKey] at a
    | int _ _ => simp [isExactStrKey] at a
    | tup _ _ _ _ => simp [isExactStrKey] at a
  have fi : (es.findIdx? fun e => e.key.isStr x) = pos xs (.text x) := by
    have : es.findIdx? (fun e => e.key.isStr x) = es.toList.findIdx? fun e => e.key.isStr x := by
      obtain ⟨l⟩ := es
      simp
    rw [this, u.ents, List.findIdx?_map]
    unfold pos
    exact fi_congr same
  unfold foundByValue
  rw [fi]
  cases hp : pos xs (.text x) with
  | none =>
    rw [hp] at h
    exact wpAny_pure h
  | some i =>
    rw [hp] at h
    obtain ⟨hi, e, _⟩ := List.findIdx?_eq_some_iff_getElem.mp hp
    have e : xs[i].1 = .text x := of_decide_eq_true e
    have hx : xs[i]? = some xs[i] := List.getElem?_eq_getElem hi
    dsimp only
    rw [u.at_, hx]
    have hy := u.keys _ (List.mem_of_getElem? hx)
    refine wpAny_bind (wpAny_dictEpoch u.get u.data (wpAny_bind (eqAt_key _ (.text x) A s _ _ hy.1 (.text x t) (by show A.units + min _ 0 < cLine; omega) _ _ _ _ (wpAny_bind (wpAny_dictEpoch u.get u.data ?_)))))
    show wpAny _ _ (if (ep != ep) = true then _ else _) _ E _
    rw [if_neg (by simp), ← NestedKey.decide_eq, decide_eq_true e]
    exact wpAny_bind (wpAny_rule (wpAny_pure h))
theorem may_tell {stored : List Value} {Q : Bool → Shared → Prop} (hk : NestedIs s.heap k key) (hd8 : k.depth ≤ 8) (hst : ∀ v ∈ stored, ∃ k', NestedIs s.heap k' v ∧ k'.depth ≤ 8) (h : Q false s) :
    wpAny (model prog w) A (tableMayTell key stored) Q E s := by
  unfold tableMayTell
  split
  · exact wpAny_pure h
  · refine wpAny_bind (quiet_key k key 8 s hk hd8 _ _ _ ?_)
    rw [Bool.not_true, if_neg Bool.false_ne_true]
    refine wpAny_bind ?_
    refine wpAny_forIn_list _ (fun rest b s' => s' = s ∧ b = (none, ()) ∧ ∀ v ∈ rest, v ∈ stored) _ ?_ ?_ _ _ ⟨rfl, rfl, fun _ q => q⟩
    · rintro v rest b s' ⟨rfl, rfl, hr⟩
      obtain ⟨k', a1, a2⟩ := hst v (hr v List.mem_cons_self)
      refine wpAny_bind (quiet_key k' v 8 s' a1 a2 _ _ _ ?_)
      rw [Bool.not_true, if_neg Bool.false_ne_true]
      exact wpAny_pure ⟨rfl, rfl, fun u q => hr u (List.mem_cons_of_mem _ q)⟩
    · rintro b s' ⟨rfl, rfl, _⟩
      exact wpAny_pure h
/-- a key is looked for -/
theorem find_u {Q : Option Nat → Shared → Prop} (hu : A.units + 8 < cLine) (u : UD w s.heap d xs o es ep) (hk : NestedIs s.heap k key) (hd8 : k.depth ≤ 8) (h : Q (pos xs k) s) :
    wpAny (model prog w) A (dictFind d key (k.hash w)) Q E s := by
  have row : ∀ e ∈ es, ∃ x ∈ xs, e = ent w x := fun e he => by
    have := Array.mem_toList_iff.mpr he
    rw [u.ents] at this
    obtain ⟨x, hx, q⟩ := List.mem_map.mp this
    exact ⟨x, hx, q.symm⟩
  have st : ∀ v ∈ (plc es (k.hash w)).filterMap (fun i => es[i]?.map (·.key)), ∃ k', NestedIs s.heap k' v ∧ k'.depth ≤ 8 := fun v hv => by
    obtain ⟨i, _, hi⟩ := List.mem_filterMap.mp hv
    rw [u.at_] at hi
    cases hx : xs[i]? with
    | none =>
      rw [hx] at hi
      cases hi
    | some x =>
      rw [hx] at hi
      have := u.keys x (List.mem_of_getElem? hx)
      cases hi
      exact ⟨x.1, this⟩
  have noch : ¬ (es.any fun e => e.key == key && e.hash != k.hash w) = true := fun z => by
    obtain ⟨e, he, q⟩ := Array.any_eq_true'.mp z
    obtain ⟨x, hx, rfl⟩ := row e he
    rw [Bool.and_eq_true, beq_iff_eq, bne_iff_ne] at q
    have a := (u.keys x hx).1
    rw [show x.2.1 = key from q.1] at a
    exact q.2 (congrArg (fun z => NestedKey.hash w z) (NestedIs.inj _ _ _ a hk))
  unfold dictFind
  with_reducible refine wpAny_holding ?_
  refine wpAny_bind (wpAny_dictEntries u.get u.data ?_)
  dsimp only
  have val : (key :: (plc es (k.hash w)).filterMap fun i => es[i]?.map (·.key)).all carriedByValue = true → wpAny (model prog w) A (dictWalkPlain d key (k.hash w) es (plc es (k.hash w))) Q E s := fun _ => walk_plain hu u hk hd8 h
  by_cases ex : ∃ x t, key = .str x t ∧ (es.all fun e => isExactStrKey e.key) = true
  · obtain ⟨x, t, rfl, a⟩ := ex
    dsimp only
    rw [if_pos a]
    cases hk
    refine found_val hu u (fun y hy => ?_) h
    rw [← Array.all_toList, List.all_eq_true] at a
    exact a (ent w y) (by rw [u.ents]; exact List.mem_map.mpr ⟨y, hy, rfl⟩)
  have step1 : ∀ (F : Str → Sem (Option Nat)) (G : Sem (Option Nat)), wpAny (model prog w) A G Q E s → wpAny (model prog w) A (match key with | .str x _ => if (es.all fun e => isExactStrKey e.key) = true then F x else G | _ => G) Q E s := fun F G q => by
    split
    · rw [if_neg fun a => ex ⟨_, _, rfl, a⟩]
      exact q
    · exact q
  refine step1 (fun x => foundByValue d key es x) _ ?_
  by_cases hall : (key :: (plc es (k.hash w)).filterMap fun i => es[i]?.map (·.key)).all carriedByValue = true
  · rw [if_pos hall]
    exact val hall
  rw [if_neg hall]
  have step2 : ∀ (F G : Sem (Option Nat)), wpAny (model prog w) A G Q E s → wpAny (model prog w) A (match key with | .ref _ => if (es.any fun e => e.key == key && e.hash != k.hash w) = true then F else G | _ => G) Q E s := fun F G q => by
    split
    · rw [if_neg noch]
      exact q
    · exact q
  refine step2 _ _ ?_
  by_cases one : (((plc es (k.hash w)).filterMap fun i => es[i]?.map (·.key)) == [key]) = true <;>
  (first | rw [if_pos one] | rw [if_neg one]) <;> (first | refine wpAny_bind (wpAny_pure ?_) | refine wpAny_bind (may_tell hk hd8 st ?_)) <;> (
    rw [if_neg (by simp)]
    refine wpAny_bind ?_
    refine wpAny_forIn_list _ (fun rest b s' => s' = s ∧ rest.Nodup ∧ ∃ hit, b = (none, hit) ∧ ((hit = none ∧ ∀ (j : Nat) (x : Row3), xs[j]? = some x → x.1 = k → j ∈ rest) ∨ ∃ j x, hit = some j ∧ xs[j]? = some x ∧ x.1 = k ∧ j ∉ rest)) _ ?_ ?_ _ _ ⟨rfl, nd_plc _ _, none, rfl, .inl ⟨rfl, fun j x e ek => by rw [← ek]; exact mem_plc u e⟩⟩
    · rintro i rest b s' ⟨rfl, ndr, hit, rfl, hr⟩
      obtain ⟨ni, ndr⟩ := List.nodup_cons.mp ndr
      have on : (∀ y, xs[i]? = some y → ¬ y.1 = k) → ((hit = none ∧ ∀ (j : Nat) (x : Row3), xs[j]? = some x → x.1 = k → j ∈ rest) ∨ ∃ j x, hit = some j ∧ xs[j]? = some x ∧ x.1 = k ∧ j ∉ rest) := fun ne => by
        rcases hr with ⟨a, b⟩ | ⟨j, x, a, b, c, e⟩
        · refine .inl ⟨a, fun j x e ek => ?_⟩
          rcases List.mem_cons.mp (b j x e ek) with rfl | q
          · exact absurd ek (ne x e)
          · exact q
        · exact .inr ⟨j, x, a, b, c, fun z => e (List.mem_cons_of_mem _ z)⟩
      rw [u.at_]
      cases hx : xs[i]? with
      | none => exact wpAny_pure ⟨rfl, ndr, hit, rfl, on fun y e => by rw [hx] at e; cases e⟩
      | some y =>
        dsimp only [Option.map_some]
        by_cases hh : ((ent w y).hash == k.hash w) = true
        · rw [if_pos hh]
          have hy := u.keys y (List.mem_of_getElem? hx)
          refine wpAny_bind (wpAny_dictEpoch u.get u.data (wpAny_bind (eqAt_key y.1 k A s' _ _ hy.1 hk (by omega) _ _ _ _ (wpAny_bind (wpAny_dictEpoch u.get u.data ?_)))))
          show wpAny _ _ (if (ep != ep) = true then _ else _) _ E _
          rw [if_neg (by simp), ← NestedKey.decide_eq]
          by_cases e : y.1 = k
          · rw [decide_eq_true e]
            subst e
            have h0 : hit = none := by
              rcases hr with ⟨a, _⟩ | ⟨j, x, a, b, c, e⟩
              · exact a
              · exfalso
                have e1 := pos_some u.nd b
                have e2 := pos_some u.nd hx
                rw [c, e2] at e1
                cases e1
                exact e List.mem_cons_self
            subst h0
            rw [if_pos rfl, if_neg (by simp)]
            refine wpAny_bind (wpAny_rule ?_)
            split
            · rw [pos_some u.nd hx] at h
              exact wpAny_pure (wpAny_pure h)
            · exact wpAny_pure ⟨rfl, ndr, some i, rfl, .inr ⟨i, y, rfl, hx, rfl, ni⟩⟩
          · rw [decide_eq_false e, if_neg Bool.false_ne_true]
            refine wpAny_bind (wpAny_rule ?_)
            rw [if_neg (by simp)]
            exact wpAny_pure ⟨rfl, ndr, hit, rfl, on fun y' e' => by rw [hx] at e'; cases e'; exact e⟩
        · rw [if_neg hh]
          refine wpAny_pure ⟨rfl, ndr, hit, rfl, on fun y' e' ek => hh ?_⟩
          rw [hx] at e'
          cases e'
          show (y.1.hash w == k.hash w) = true
          rw [ek]
          exact beq_self_eq_true _
    · rintro b s' ⟨rfl, _, hit, rfl, hr⟩
      rcases hr with ⟨rfl, b⟩ | ⟨j, x, rfl, b, c, _⟩
      · rw [pos_none fun x hx e => ?_] at h
        · exact wpAny_pure h
        · obtain ⟨j, hj⟩ := List.mem_iff_getElem?.mp hx
          cases b j x hj e
      · subst c
        rw [pos_some u.nd b] at h
        exact wpAny_pure h)
end
end LU
namespace LU
open PySem PySem.Spec PyProof.Rows
def valU (xs : List Row3) (k : NestedKey) : Option Value := (pos xs k).bind fun i => (xs[i]?).map (·.2.2)
def setU (xs : List Row3) (k : NestedKey) (key v : Value) : List Row3 :=
  match pos xs k with
  | some i => xs.modify i fun x => (x.1, x.2.1, v)
  | none => xs ++ [(k, key, v)]
theorem pos_is {xs : List Row3} {k : NestedKey} {i : Nat} (h : pos xs k = some i) : ∃ x, xs[i]? = some x ∧ x.1 = k := by
  obtain ⟨hi, e, _⟩ := List.findIdx?_eq_some_iff_getElem.mp h
  exact ⟨_, List.getElem?_eq_getElem hi, of_decide_eq_true e⟩
section
variable {prog : Program} {w : World} {A : Around} {E : Value → Shared → Prop} {s : Shared} {d : Addr} {xs : List Row3} {o : Obj} {es : Array DictEntry} {ep : Nat} {k : NestedKey} {key : Value}
theorem keys_on {h h' : Heap} {x : NestedKey × Value} (u : UD w h d xs o es ep) (hs : Heap.SameBut d h h') (q : NestedIs h x.1 x.2 ∧ x.1.depth ≤ 8) : NestedIs h' x.1 x.2 ∧ x.1.depth ≤ 8 := by
  refine ⟨NestedIs.at (fun b ob vs n hb hc => ?_) _ _ q.1, q.2⟩
  by_cases e : b = d
  · subst e
    rw [u.get] at hb
    cases hb
    rw [u.data] at hc
    cases hc
  · exact (hs.2 b e).trans hb
theorem get_u {Q : Option Value → Shared → Prop} (hu : A.units + 8 < cLine) (u : UD w s.heap d xs o es ep) (hk : NestedIs s.heap k key) (hd8 : k.depth ≤ 8) (h : Q (valU xs k) { s with toks := s.toks + k.draws }) : wpAny (model prog w) A (dictGet d key) Q E s := by
  unfold dictGet
  with_reducible refine wpAny_holding ?_
  refine wpAny_bind (pyHash_key k key A s _ hk (by omega) (wpAny_bind (find_u (s := { s with toks := s.toks + k.draws }) hu u hk hd8 ?_)))
  unfold valU at h
  cases hp : pos xs k with
  | none =>
    rw [hp] at h
    exact wpAny_pure h
  | some i =>
    rw [hp] at h
    obtain ⟨x, hx, _⟩ := pos_is hp
    refine wpAny_bind (wpAny_dictEntries (s := { s with toks := s.toks + k.draws }) u.get u.data ?_)
    rw [u.at_, hx]
    rw [Option.bind_some, hx] at h
    exact wpAny_pure h
theorem UD.type {s : Shared} (u : UD w s.heap d xs o es ep) : s.TypeIs (.ref d) "dict" := ⟨o, u.get, u.exact_.1⟩
theorem set_u {v : Value} {Q : Unit → Shared → Prop} (hu : A.units + 8 < cLine) (u : UD w s.heap d xs o es ep) (hk : NestedIs s.heap k key) (hd8 : k.depth ≤ 8) (hsz : xs.length ≤ sizeLine)
    (h : ∀ h' o' es' ep', UD w h' d (setU xs k key v) o' es' ep' → Heap.SameBut d s.heap h' → Q () { s with heap := h', toks := s.toks + k.draws }) : wpAny (model prog w) A (dictSet d key v) Q E s := by
  unfold dictSet
  with_reducible refine wpAny_holding ?_
  refine wpAny_bind (pyHash_key k key A s _ hk (by omega) ?_)
  unfold dictSetHashed
  with_reducible refine wpAny_holding ?_
  refine wpAny_bind (find_u (s := { s with toks := s.toks + k.draws }) hu u hk hd8 ?_)
  cases hp : pos xs k with
  | none =>
    refine wpAny_bind (wpAny_rule (wpAny_updateDictKeys (hz := by have e := u.size; omega) (s := { s with toks := s.toks + k.draws }) u.get u.data (h _ _ _ (ep + 1) ⟨Heap.get?_update_self _ u.get (Obj.isFreed_of_dict (Obj.data_mapDictKeys u.data _)), u.exact_.mapDictKeys _, Obj.data_mapDictKeys u.data _, ?_, ?_, ?_⟩ (Heap.SameBut.update ..))))
    all_goals unfold setU
    all_goals rw [hp]
    · rw [Array.toList_push, u.ents, List.map_append]
      rfl
    · intro x hx
      rcases List.mem_append.mp hx with q | q
      · exact keys_on (x := (x.1, x.2.1)) u (Heap.SameBut.update ..) (u.keys x q)
      · rw [List.mem_singleton.mp q]
        exact keys_on (x := (k, key)) u (Heap.SameBut.update ..) ⟨hk, hd8⟩
    · show ((xs ++ [(k, key, v)]).map (·.1)).Nodup
      rw [List.map_append]
      refine List.nodup_append.mpr ⟨u.nd, by simp, fun a ha b hb e => ?_⟩
      rw [List.map_singleton, List.mem_singleton] at hb
      obtain ⟨x, hx, rfl⟩ := List.mem_map.mp ha
      have := List.findIdx?_eq_none_iff.mp hp x hx
      exact absurd (e.trans hb) (of_decide_eq_false this)
  | some i =>
    obtain ⟨x, hx, hxk⟩ := pos_is hp
    refine wpAny_bind (wpAny_rule (wpAny_bind (wpAny_updateDict (s := { s with toks := s.toks + k.draws }) u.get u.data (wpAny_point (h _ _ _ ep ⟨Heap.get?_update_self _ u.get (Obj.isFreed_of_dict (Obj.data_mapDict u.data _)), u.exact_.mapDict _, Obj.data_mapDict u.data _, ?_, ?_, ?_⟩ (Heap.SameBut.update ..))))))
    all_goals unfold setU
    all_goals rw [hp]
    · refine List.ext_getElem? fun j => ?_
      rw [Array.toList_modify, u.ents, List.getElem?_map, List.getElem?_modify, List.getElem?_modify, List.getElem?_map]
      cases xs[j]? with
      | none => rfl
      | some y =>
        by_cases e : i = j
        · simp [e, ent]
        · simp [e, ent]
    · intro y hy
      obtain ⟨j, hj⟩ := List.mem_iff_getElem?.mp hy
      rw [List.getElem?_modify] at hj
      cases hz : xs[j]? with
      | none =>
        rw [hz] at hj
        cases hj
      | some z =>
        rw [hz] at hj
        have kz : ∀ f : Obj → Obj, NestedIs (s.heap.update d f) z.1 z.2.1 ∧ z.1.depth ≤ 8 := fun f => keys_on (x := (z.1, z.2.1)) u (Heap.SameBut.update _ _ f) (u.keys z (List.mem_of_getElem? hz))
        by_cases e : i = j
        · simp [e] at hj
          subst hj
          exact kz _
        · simp [e] at hj
          subst hj
          exact kz _
    · have : ((xs.modify i fun x => (x.1, x.2.1, v)).map (·.1)) = xs.map (·.1) := by
        refine List.ext_getElem? fun j => ?_
        rw [List.getElem?_map, List.getElem?_map, List.getElem?_modify]
        cases xs[j]? with
        | none => rfl
        | some y =>
          by_cases e : i = j
          · simp [e]
          · simp [e]
      show ((xs.modify i fun x => (x.1, x.2.1, v)).map (·.1)).Nodup
      rw [this]
      exact u.nd
/-- key in d -/
theorem in_u {Q : Value → Shared → Prop} (hu : A.in1.units + 8 < cLine) (hd : (d == sysModules) = false) (u : UD w s.heap d xs o es ep) (hk : NestedIs s.heap k key) (hd8 : k.depth ≤ 8)
    (h : Q (.bool (valU xs k).isSome) { s with toks := s.toks + k.draws }) : wpAny (model prog w) A (compareOp .In key (.ref d)) Q E s := by
  show wpAny _ _ (do return .bool (← contains (.ref d) key)) Q E s
  refine wpAny_bind ?_
  unfold contains
  with_reducible refine wpAny_holding ?_
  refine wpAny_bind (wpAny_specialOf u.type slot_dict_contains.lookup ?_)
  show wpAny _ _ (if (some (Value.builtin "dict.__contains__") == some Value.none) = true then _ else _) _ E s
  rw [if_neg (by rw [beq_builtin_none]; exact Bool.false_ne_true)]
  refine wpAny_bind (wpAny_callSpecialUnlessNone?_slot (name := Str.ofString "__contains__") u.type slot_dict_contains (wpAny_call_entry slot_dict_contains u.type entry_dict_contains ?_ (args_dict_contains _ _)))
  show wpAny _ _ (dictGet d key >>= _) _ _ s
  refine wpAny_bind (get_u hu u hk hd8 ?_)
  cases hf : valU xs k with
  | some p =>
    rw [hf] at h
    show wpAny _ _ (ret (.bool true)) _ _ _
    exact wpAny_pure ⟨_, rfl, wpAny_truthy_bool (wpAny_pure h)⟩
  | none =>
    rw [hf] at h
    show wpAny _ _ (Builtin.Dict.pendingKey? d key >>= _) _ _ _
    exact wpAny_bind (wpAny_pendingKey_other hd (wpAny_pure ⟨_, rfl, wpAny_truthy_bool (wpAny_pure h)⟩))
/-- key not in d -/
theorem notIn_u {Q : Value → Shared → Prop} (hu : A.in1.units + 8 < cLine) (hd : (d == sysModules) = false) (u : UD w s.heap d xs o es ep) (hk : NestedIs s.heap k key) (hd8 : k.depth ≤ 8)
    (h : Q (.bool (!(valU xs k).isSome)) { s with toks := s.toks + k.draws }) : wpAny (model prog w) A (compareOp .NotIn key (.ref d)) Q E s := by
  show wpAny _ _ (do return .bool (!(← contains (.ref d) key))) Q E s
  refine wpAny_bind ?_
  unfold contains
  with_reducible refine wpAny_holding ?_
  refine wpAny_bind (wpAny_specialOf u.type slot_dict_contains.lookup ?_)
  show wpAny _ _ (if (some (Value.builtin "dict.__contains__") == some Value.none) = true then _ else _) _ E s
  rw [if_neg (by rw [beq_builtin_none]; exact Bool.false_ne_true)]
  refine wpAny_bind (wpAny_callSpecialUnlessNone?_slot (name := Str.ofString "__contains__") u.type slot_dict_contains (wpAny_call_entry slot_dict_contains u.type entry_dict_contains ?_ (args_dict_contains _ _)))
  show wpAny _ _ (dictGet d key >>= _) _ _ s
  refine wpAny_bind (get_u hu u hk hd8 ?_)
  cases hf : valU xs k with
  | some p =>
    rw [hf] at h
    show wpAny _ _ (ret (.bool true)) _ _ _
    exact wpAny_pure ⟨_, rfl, wpAny_truthy_bool (wpAny_pure h)⟩
  | none =>
    rw [hf] at h
    show wpAny _ _ (Builtin.Dict.pendingKey? d key >>= _) _ _ _
    exact wpAny_bind (wpAny_pendingKey_other hd (wpAny_pure ⟨_, rfl, wpAny_truthy_bool (wpAny_pure h)⟩))
/-- d[key] -/
theorem item_u {v : Value} {Q : Value → Shared → Prop} (hu : A.in1.units + 8 < cLine) (u : UD w s.heap d xs o es ep) (hk : NestedIs s.heap k key) (hd8 : k.depth ≤ 8) (hv : valU xs k = some v)
    (h : Q v { s with toks := s.toks + k.draws }) : wpAny (model prog w) A (getItem (.ref d) key) Q E s := by
  unfold getItem
  with_reducible refine wpAny_holding ?_
  refine wpAny_bind (wpAny_sequenceKey u.type (by decide) ?_)
  refine wpAny_bind (wpAny_callSpecial?_slot (name := Str.ofString "__getitem__") u.type slot_dict_getitem (wpAny_call_entry slot_dict_getitem u.type entry_dict_getitem ?_ (args_dict_getitem _ _)))
  show wpAny _ _ (dictGet d key >>= _) _ _ s
  refine wpAny_bind (get_u hu u hk hd8 ?_)
  rw [hv]
  exact wpAny_pure ⟨v, rfl, wpAny_pure h⟩
/-- d[key] = v -/
theorem setItem_u {v : Value} {Q : Unit → Shared → Prop} (hu : A.in1.units + 8 < cLine) (u : UD w s.heap d xs o es ep) (hk : NestedIs s.heap k key) (hd8 : k.depth ≤ 8) (hsz : xs.length ≤ sizeLine)
    (h : ∀ h' o' es' ep', UD w h' d (setU xs k key v) o' es' ep' → Heap.SameBut d s.heap h' → Q () { s with heap := h', toks := s.toks + k.draws }) : wpAny (model prog w) A (setItem (.ref d) key v) Q E s := by
  unfold setItem
  with_reducible refine wpAny_holding ?_
  refine wpAny_bind (wpAny_sequenceKey u.type (by decide) ?_)
  refine wpAny_bind (wpAny_callSpecial?_slot (name := Str.ofString "__setitem__") u.type slot_dict_setitem (wpAny_call_entry slot_dict_setitem u.type entry_dict_setitem ?_ (args_dict_setitem _ _ _)))
  show wpAny _ _ (Builtin.Dict.notOrdered "__setitem__" ⟨[.ref d, key, v], []⟩ >>= _) _ _ s
  refine wpAny_bind (wpAny_notOrdered_dict u.type ?_)
  show wpAny _ _ (dictSet d key v >>= _) _ _ s
  exact wpAny_bind (set_u hu u hk hd8 hsz fun h' o' es' ep' a b => wpAny_pure ⟨.none, rfl, wpAny_pure (h h' o' es' ep' a b)⟩)
end
end LU

namespace LU
open PySem PySem.Spec PyProof.Rows L2
/-! ### the same over the abstract heap -/
mutual
inductive NV (H : Hp) : NestedKey → V → Prop
  | none : NV H .none .non
  | num (i : Int) : NV H (.num i) (.int i)
  | text (x : Str) : NV H (.text x) (.str x)
  | tup {a : Addr} {vs : List V} {ks : List NestedKey} : H a = some (.tup vs) → NVs H ks vs → NV H (.tup ks) (.ref a)
inductive NVs (H : Hp) : List NestedKey → List V → Prop
  | nil : NVs H [] []
  | cons {k : NestedKey} {v : V} {ks : List NestedKey} {vs : List V} : NV H k v → NVs H ks vs → NVs H (k :: ks) (v :: vs)
end
mutual
theorem NV.mono {H H' : Hp} (t : ∀ b xs, H b = some (.tup xs) → H' b = some (.tup xs)) : ∀ {k : NestedKey} {v : V}, NV H k v → NV H' k v
  | _, _, .none => .none
  | _, _, .num i => .num i
  | _, _, .text x => .text x
  | _, _, .tup h q => .tup (t _ _ h) (NVs.mono t q)
theorem NVs.mono {H H' : Hp} (t : ∀ b xs, H b = some (.tup xs) → H' b = some (.tup xs)) : ∀ {ks : List NestedKey} {vs : List V}, NVs H ks vs → NVs H' ks vs
  | _, _, .nil => .nil
  | _, _, .cons a b => .cons (NV.mono t a) (NVs.mono t b)
end
mutual
theorem NV.is {P : Program} {w : World} {H : Hp} {h : Heap} (ok : HOk P w H h) : ∀ {k : NestedKey} {v : V}, NV H k v → ∀ {u : Value}, RelV v u → NestedIs h k u
  | _, _, .none, u, r => by
    obtain rfl : u = Value.none := r
    exact .none
  | _, _, .num i, u, r => by
    obtain ⟨t, rfl⟩ : ∃ t, u = Value.int i t := r
    exact .int i t
  | _, _, .text x, u, r => by
    obtain ⟨t, rfl⟩ : ∃ t, u = Value.str x t := r
    exact .text x t
  | _, _, .tup (a := a) hh q, u, r => by
    obtain rfl : u = Value.ref a := r
    obtain ⟨_, its, rv, o, h1, h2, n, h3⟩ := (show ObjOk P w H h a (.tup _) from ok a _ hh)
    exact .tup h1 h2 h3 (by simpa using NVs.is ok q rv)
theorem NVs.is {P : Program} {w : World} {H : Hp} {h : Heap} (ok : HOk P w H h) : ∀ {ks : List NestedKey} {vs : List V}, NVs H ks vs → ∀ {us : List Value}, Vals vs us → NestedAll h ks us
  | _, _, .nil, us, r => by
    cases r
    exact .nil
  | _, _, .cons a b, us, r => by
    cases r with
    | cons r1 r2 => exact .cons (NV.is ok a r1) (NVs.is ok b r2)
end
/-- a dict's rows: key, what was handed in as key, what stands there -/
abbrev Trio := NestedKey × V × V
abbrev RR : List Trio → List Row3 → Prop := Paired fun (p : Trio) (q : Row3) => p.1 = q.1 ∧ RelV p.2.1 q.2.1 ∧ RelV p.2.2 q.2.2
def UO (w : World) (d : Addr) (xs : List Trio) : HO := .ext fun h => xs.length ≤ sizeLine ∧ (d == sysModules) = false ∧ ∃ rs : List Row3, RR xs rs ∧ ∃ o es ep, h.get? d = some o ∧ o.ExactDict ∧ o.data = .dict es ep ∧ es.toList = rs.map (ent w) ∧ (rs.map (·.1)).Nodup
abbrev kvOf (xs : List Trio) : List (NestedKey × V) := xs.map fun x => (x.1, x.2.2)
/-- at d stands a dict with these keys and things -/
def UAt (w : World) (H : Hp) (d : Addr) (kvs : List (NestedKey × V)) : Prop := ∃ xs, H d = some (UO w d xs) ∧ (∀ x ∈ xs, NV H x.1 x.2.1 ∧ x.1.depth ≤ 8) ∧ kvOf xs = kvs
theorem UAt.mono {w : World} {H H' : Hp} {d : Addr} {kvs : List (NestedKey × V)} (u : UAt w H d kvs) (t : ∀ b xs, H b = some (.tup xs) → H' b = some (.tup xs)) (e : ∀ o, H d = some o → H' d = some o) : UAt w H' d kvs := by
  obtain ⟨xs, a, b, c⟩ := u
  exact ⟨xs, e _ a, fun x hx => ⟨(b x hx).1.mono t, (b x hx).2⟩, c⟩
theorem UAt.same {w : World} {H H' : Hp} {d : Addr} {kvs : List (NestedKey × V)} (u : UAt w H d kvs) (s : Same H H') : UAt w H' d kvs := u.mono (fun b xs h => s b _ h) fun o h => s d o h
theorem UAt.ne {w : World} {H : Hp} {d b : Addr} {kvs : List (NestedKey × V)} {o : HO} (u : UAt w H d kvs) (h : H b = some o) (no : ∀ φ, o ≠ .ext φ) : d ≠ b := by
  obtain ⟨xs, a, _, _⟩ := u
  rintro rfl
  rw [h] at a
  exact no _ (Option.some.inj a)
theorem UAt.ne_none {w : World} {H : Hp} {d b : Addr} {kvs : List (NestedKey × V)} (u : UAt w H d kvs) (h : H b = none) : d ≠ b := by
  obtain ⟨xs, a, _, _⟩ := u
  exact ne_of_none a h
theorem RR.len {xs : List Trio} {rs : List Row3} (r : RR xs rs) : xs.length = rs.length := Paired.length r
theorem RR.keys {xs : List Trio} {rs : List Row3} (r : RR xs rs) : xs.map (·.1) = rs.map (·.1) := by
  induction r with
  | nil => rfl
  | cons h t ih => rw [List.map_cons, List.map_cons, ih, h.1]
theorem RR.at_ {xs : List Trio} {rs : List Row3} (r : RR xs rs) : ∀ {i : Nat} {y : Row3}, rs[i]? = some y → ∃ x, xs[i]? = some x ∧ x.1 = y.1 ∧ RelV x.2.1 y.2.1 ∧ RelV x.2.2 y.2.2 := by
  induction r with
  | nil => intro i y e; simp at e
  | @cons p q ps qs h t ih =>
    intro i y e
    cases i with
    | zero =>
      cases e
      exact ⟨p, rfl, h⟩
    | succ i => exact ih (by simpa using e)
section
variable {P : Program} {w : World} {H : Hp} {h : Heap} {d : Addr} {kvs : List (NestedKey × V)}
theorem UAt.ud (u : UAt w H d kvs) (ok : HOk P w H h) : ∃ (xs : List Trio) (rs : List Row3) (o : Obj) (es : Array DictEntry) (ep : Nat), H d = some (UO w d xs) ∧ (∀ x ∈ xs, NV H x.1 x.2.1 ∧ x.1.depth ≤ 8) ∧ kvOf xs = kvs ∧ xs.length ≤ sizeLine ∧ (d == sysModules) = false ∧ RR xs rs ∧ UD w h d rs o es ep := by
  obtain ⟨xs, a, b, c⟩ := u
  obtain ⟨⟨z, hd, rs, rr, o, es, ep, h1, h2, h3, h4, h5⟩, _, _⟩ := (show ObjOk P w H h d (UO w d xs) from ok d _ a)
  refine ⟨xs, rs, o, es, ep, a, b, c, z, hd, rr, ⟨h1, h2, h3, h4, fun y hy => ?_, h5⟩⟩
  obtain ⟨i, hi⟩ := List.mem_iff_getElem?.mp hy
  obtain ⟨x, hx, e1, e2, _⟩ := rr.at_ hi
  obtain ⟨n1, n2⟩ := b x (List.mem_of_getElem? hx)
  rw [← e1]
  exact ⟨n1.is ok e2, n2⟩
theorem RR.val {xs : List Trio} {rs : List Row3} (r : RR xs rs) (k : NestedKey) : RelO (valV (kvOf xs) k) (valU rs k) := by
  have aux : ∀ {xs : List Trio} {rs : List Row3}, RR xs rs → RelO (valV (kvOf xs) k) ((rs.find? fun x => decide (x.1 = k)).map (·.2.2)) := by
    intro xs rs r
    induction r with
    | nil => exact True.intro
    | @cons p q ps qs h t ih =>
      obtain ⟨h1, _, h3⟩ := h
      by_cases e : p.1 = k
      · have e' : q.1 = k := h1.symm.trans e
        show RelO (valV ((p.1, p.2.2) :: kvOf ps) k) _
        rw [valV_pos (p := (p.1, p.2.2)) e, List.find?_cons, decide_eq_true e']
        exact h3
      · have e' : ¬ q.1 = k := fun z => e (h1.trans z)
        show RelO (valV ((p.1, p.2.2) :: kvOf ps) k) _
        rw [valV_neg (p := (p.1, p.2.2)) e, List.find?_cons, decide_eq_false e']
        exact ih
  have : valU rs k = (rs.find? fun x => decide (x.1 = k)).map (·.2.2) := by
    unfold valU pos
    clear r aux
    induction rs with
    | nil => rfl
    | cons y r ih =>
      rw [List.findIdx?_cons, List.find?_cons]
      by_cases e : y.1 = k
      · rw [decide_eq_true e]
        rfl
      · rw [decide_eq_false e]
        dsimp only
        rw [← ih]
        cases List.findIdx? (fun x => decide (x.1 = k)) r with
        | none => rfl
        | some j => rfl
  rw [this]
  exact aux r
/-- the rows behind a store -/
def putX (xs : List Trio) (k : NestedKey) (y v : V) : List Trio :=
  if (xs.any fun x => decide (x.1 = k)) = true then xs.map (fun x => if x.1 = k then (x.1, x.2.1, v) else x) else xs ++ [(k, y, v)]
theorem putX_kv (xs : List Trio) (k : NestedKey) (y v : V) : kvOf (putX xs k y v) = putK (kvOf xs) k v := by
  unfold putX putK
  rw [List.any_map]
  by_cases e : (xs.any fun x => decide (x.1 = k)) = true
  · rw [if_pos e, if_pos (show (xs.any ((fun kv : NestedKey × V => decide (kv.1 = k)) ∘ fun x : Trio => (x.1, x.2.2))) = true from e)]
    unfold kvOf
    rw [List.map_map, List.map_map]
    refine List.map_congr_left fun x _ => ?_
    show (((if x.1 = k then (x.1, x.2.1, v) else x) : Trio).1, ((if x.1 = k then (x.1, x.2.1, v) else x) : Trio).2.2) = if x.1 = k then (x.1, v) else (x.1, x.2.2)
    split <;> rfl
  · rw [if_neg e, if_neg (show ¬ (xs.any ((fun kv : NestedKey × V => decide (kv.1 = k)) ∘ fun x : Trio => (x.1, x.2.2))) = true from e)]
    unfold kvOf
    rw [List.map_append]
    rfl
theorem RR.put {xs : List Trio} {rs : List Row3} (r : RR xs rs) (nd : (rs.map (·.1)).Nodup) (k : NestedKey) {y v : V} {u z : Value} (ry : RelV y u) (rv : RelV v z) : RR (putX xs k y v) (setU rs k u z) := by
  unfold putX setU
  cases hp : pos rs k with
  | none =>
    have : ¬ (xs.any fun x => decide (x.1 = k)) = true := fun q => by
      obtain ⟨x, hx, e⟩ := List.any_eq_true.mp q
      have m : x.1 ∈ xs.map (·.1) := List.mem_map.mpr ⟨x, hx, rfl⟩
      rw [r.keys] at m
      obtain ⟨y', hy', e'⟩ := List.mem_map.mp m
      have := List.findIdx?_eq_none_iff.mp hp y' hy'
      exact absurd (e'.trans (of_decide_eq_true e)) (of_decide_eq_false this)
    rw [if_neg this]
    exact Paired.snoc r ⟨rfl, ry, rv⟩
  | some i =>
    obtain ⟨q, hq, ek⟩ := pos_is hp
    obtain ⟨x, hx, e1, _, _⟩ := r.at_ hq
    rw [if_pos (List.any_eq_true.mpr ⟨x, List.mem_of_getElem? hx, decide_eq_true (e1.trans ek)⟩)]
    dsimp only
    have e : (rs.modify i fun x => (x.1, x.2.1, z)) = rs.map fun x => if x.1 = k then (x.1, x.2.1, z) else x := by
      refine List.ext_getElem? fun j => ?_
      rw [List.getElem?_modify, List.getElem?_map]
      cases hj : rs[j]? with
      | none => rfl
      | some t =>
        by_cases c : i = j
        · subst c
          rw [hq] at hj
          cases hj
          simp [ek]
        · have : ¬ t.1 = k := fun w' => c (by
            have a1 := pos_some nd hj
            rw [w', hp] at a1
            exact Option.some.inj a1)
          simp [c, this]
    rw [e]
    clear e hp hq hx
    induction r with
    | nil => exact .nil
    | @cons p q ps qs h t ih =>
      obtain ⟨h1, h2, h3⟩ := h
      rw [List.map_cons, List.map_cons]
      refine .cons ?_ (ih (List.nodup_cons.mp nd).2)
      by_cases c : p.1 = k
      · rw [if_pos c, if_pos (h1.symm.trans c)]
        exact ⟨h1, h2, rv⟩
      · rw [if_neg c, if_neg fun w' => c (h1.trans w')]
        exact ⟨h1, h2, h3⟩
end
end LU
namespace LU
open PySem PySem.Spec PyProof.Rows L2
section
variable {X : Cx} {pins : List (Addr × Obj)} {σ : L2.St} {H : Hp} {s : Shared} {a : Addr} {kvs : List (NestedKey × V)} {k : NestedKey} {y v : V} {u z : Value} {E : Value → Shared → Prop}
theorem uo_ok {P : Program} {w : World} {H : Hp} {h : Heap} {d : Addr} {xs : List Trio} {rs : List Row3} {o : Obj} {es : Array DictEntry} {ep : Nat} (hl : xs.length ≤ sizeLine) (hd : (d == sysModules) = false) (r : RR xs rs) (q : UD w h d rs o es ep) : ObjOk P w H h d (UO w d xs) := by
  refine ⟨⟨hl, hd, rs, r, o, es, ep, q.get, q.exact_, q.data, q.ents, q.nd⟩, ⟨o, q.get⟩, fun h1 h2 p e => ?_⟩
  obtain ⟨a, b, rs', r', o', es', ep', c, t⟩ := p
  exact ⟨a, b, rs', r', o', es', ep', e _ c, t⟩
theorem u_in {Q : Value → Shared → Prop} (hu : X.A.units + 64 < cLine) (I : Inv X pins σ H s) (g : UAt X.w H a kvs) (n : NV H k y) (hd : k.depth ≤ 8) (ry : RelV y u) (h : ∀ s', Inv X pins σ H s' → Q (.bool (valV kvs k).isSome) s') :
    wpAny (model X.prog X.w) X.A (compareOp .In u (.ref a)) Q E s := by
  obtain ⟨xs, rs, o, es, ep, _, _, c, _, hs, rr, ud⟩ := g.ud I.hok
  refine in_u (by rw [Around.in1_units]; omega) hs ud (n.is I.hok ry) hd ?_
  have e := (rr.val k).isSome_eq
  rw [c] at e
  rw [← e]
  exact h _ (I.tok _)
theorem u_notIn {Q : Value → Shared → Prop} (hu : X.A.units + 64 < cLine) (I : Inv X pins σ H s) (g : UAt X.w H a kvs) (n : NV H k y) (hd : k.depth ≤ 8) (ry : RelV y u) (h : ∀ s', Inv X pins σ H s' → Q (.bool (!(valV kvs k).isSome)) s') :
    wpAny (model X.prog X.w) X.A (compareOp .NotIn u (.ref a)) Q E s := by
  obtain ⟨xs, rs, o, es, ep, _, _, c, _, hs, rr, ud⟩ := g.ud I.hok
  refine notIn_u (by rw [Around.in1_units]; omega) hs ud (n.is I.hok ry) hd ?_
  have e := (rr.val k).isSome_eq
  rw [c] at e
  rw [← e]
  exact h _ (I.tok _)
theorem u_getItem {Q : Value → Shared → Prop} (hu : X.A.units + 64 < cLine) (I : Inv X pins σ H s) (g : UAt X.w H a kvs) (n : NV H k y) (hd : k.depth ≤ 8) (hv : valV kvs k = some v) (ry : RelV y u) (h : ∀ w' s', Inv X pins σ H s' → RelV v w' → Q w' s') :
    wpAny (model X.prog X.w) X.A (getItem (.ref a) u) Q E s := by
  obtain ⟨xs, rs, o, es, ep, _, _, c, _, hs, rr, ud⟩ := g.ud I.hok
  have e := rr.val k
  rw [c] at e
  obtain ⟨w', hw, rw'⟩ := RelO.some_of (v := v) (o := valU rs k) (by rw [← hv]; exact e)
  exact item_u (by rw [Around.in1_units]; omega) ud (n.is I.hok ry) hd hw (h w' _ (I.tok _) rw')
theorem putX_len (xs : List Trio) (k : NestedKey) (y v : V) : (putX xs k y v).length ≤ xs.length + 1 := by
  unfold putX
  split
  · rw [List.length_map]
    omega
  · rw [List.length_append]
    exact Nat.le_refl _
/-- the heap behind a store into such a dict -/
def UPut (w : World) (H : Hp) (a : Addr) (kvs : List (NestedKey × V)) (H' : Hp) : Prop := UAt w H' a kvs ∧ (∀ b, b ≠ a → H' b = H b)
theorem UPut.tups {w : World} {H H' : Hp} {a : Addr} {kvs kvs' : List (NestedKey × V)} (g : UAt w H a kvs') (p : UPut w H a kvs H') : ∀ b xs, H b = some (.tup xs) → H' b = some (.tup xs) := fun b xs e => by
  rw [p.2 b (g.ne e (fun φ z => by cases z)).symm]
  exact e
theorem u_setItem {Q : Unit → Shared → Prop} (hu : X.A.units + 64 < cLine) (I : Inv X pins σ H s) (g : UAt X.w H a kvs) (n : NV H k y) (hd : k.depth ≤ 8) (hl : kvs.length < sizeLine) (ry : RelV y u) (rv : RelV v z)
    (h : ∀ H' s', UPut X.w H a (putK kvs k v) H' → Inv X pins σ H' s' → Q () s') :
    wpAny (model X.prog X.w) X.A (setItem (.ref a) u z) Q E s := by
  obtain ⟨xs, rs, o, es, ep, ea, ks, c, hz, hs, rr, ud⟩ := g.ud I.hok
  have lx : xs.length = kvs.length := by rw [← c, List.length_map]
  refine setItem_u (by rw [Around.in1_units]; omega) ud (n.is I.hok ry) hd (by rw [← rr.len]; exact hz) fun h' o' es' ep' ud' sb => ?_
  have nt : ∀ b ys, H b = some (.tup ys) → (upd H a (UO X.w a (putX xs k y v))) b = some (.tup ys) := fun b ys e => by
    rw [upd_ne (ne_of e ea (by intro z; cases z))]
    exact e
  refine h (upd H a (UO X.w a (putX xs k y v))) _ ⟨⟨_, upd_same, fun x hx => ?_, ?_⟩, fun b hb => upd_ne hb⟩ (d_write I (by rw [ea]; exact True.intro) sb ⟨_, ud'.get⟩ (uo_ok ?_ hs (rr.put ud.nd k ry rv) ud'))
  · unfold putX at hx
    split at hx
    · obtain ⟨x', hx', rfl⟩ := List.mem_map.mp hx
      have := ks x' hx'
      split
      · exact ⟨this.1.mono nt, this.2⟩
      · exact ⟨this.1.mono nt, this.2⟩
    · rcases List.mem_append.mp hx with q | q
      · exact ⟨(ks x q).1.mono nt, (ks x q).2⟩
      · rw [List.mem_singleton.mp q]
        exact ⟨n.mono nt, hd⟩
  · rw [putX_kv, c]
  · have := putX_len xs k y v
    omega
theorem u_empty {P : Program} {w : World} {H : Hp} (h : Heap) (hb : sysModules < h.objs.size) : ObjOk P w H (h.push { cls := .type "dict", data := .dict #[] }) h.objs.size (UO w h.objs.size []) :=
  uo_ok (rs := []) (Nat.zero_le _) (beq_eq_false_iff_ne.mpr (Ne.symm (Nat.ne_of_lt hb))) .nil ⟨Heap.get?_push_size _ rfl, ⟨rfl, rfl, rfl⟩, rfl, rfl, (fun _ q => nomatch q), List.nodup_nil⟩
theorem u_new {w : World} {H : Hp} {p : Addr} : UAt w (upd H p (UO w p [])) p [] := ⟨[], upd_same, (fun _ q => nomatch q), rfl⟩
end
/-! ### readings and rules -/
def tUNew (w : World) : TE := fun _ H Q => ∀ p, H p = none → ∀ H', UAt w H' p [] → (∀ b, b ≠ p → H' b = H b) → Q (.ref p) H'
def tUGet (w : World) (td ty : TE) : TE := fun σ H Q => td σ H fun x H1 => ty σ H1 fun y H2 => ∃ a kvs k v, x = .ref a ∧ UAt w H2 a kvs ∧ NV H2 k y ∧ k.depth ≤ 8 ∧ valV kvs k = some v ∧ Q v H2
def tUIn (w : World) (ty td : TE) : TE := fun σ H Q => ty σ H fun y H1 => td σ H1 fun x H2 => ∃ a kvs k, x = .ref a ∧ UAt w H2 a kvs ∧ NV H2 k y ∧ k.depth ≤ 8 ∧ Q (.bl (valV kvs k).isSome) H2
def tUNotIn (w : World) (ty td : TE) : TE := fun σ H Q => ty σ H fun y H1 => td σ H1 fun x H2 => ∃ a kvs k, x = .ref a ∧ UAt w H2 a kvs ∧ NV H2 k y ∧ k.depth ≤ 8 ∧ Q (.bl (!(valV kvs k).isSome)) H2
def sUPut (w : World) (td ty tv : TE) : TS := fun D σ H => tv σ H fun v H1 => td σ H1 fun x H2 => ty σ H2 fun y H3 => ∃ a kvs k, x = .ref a ∧ UAt w H3 a kvs ∧ NV H3 k y ∧ k.depth ≤ 8 ∧ kvs.length < sizeLine ∧ ∀ H4, UPut w H3 a (putK kvs k v) H4 → D.nx σ H4
/-- {k: v} -/
def tUDisp (w : World) (tk tv : TE) : TE := fun σ H Q => ∀ p, H p = none → ∀ H0, UAt w H0 p [] → (∀ b, b ≠ p → H0 b = H b) → tk σ H0 fun x H1 => tv σ H1 fun y H2 => UAt w H2 p [] ∧ ∃ k, NV H2 k x ∧ k.depth ≤ 8 ∧ ∀ H3, UPut w H2 p [(k, y)] H3 → Q (.ref p) H3
section
variable {X : Cx} {o i e value : Expr} {pos pos' tpos : Pos} {td ty tv tk : TE} {w : World}
theorem pe_unew (hw : X.w = w) : PE X (.Dict [] [] pos) (tUNew w) := by
  subst hw
  exact ⟨fun pins s σ H Q I h => wpAny_Dict_empty ⟨.ref s.heap.objs.size, _, I.laid (a := s.heap.objs.size) (o := UO X.w s.heap.objs.size []) (t' := s.toks) (fun _ _ q => Heap.get?_push_of_some _ q) (Nat.le_refl _) (u_empty s.heap I.big), rfl, h _ (I.hok.fresh (Nat.le_refl _)) _ u_new fun b hb => upd_ne hb⟩⟩
theorem pe_uget (hw : X.w = w) (hu : X.A.units + 64 < cLine) (ho : PE X o td) (hi : PE X i ty) (hs : NoSl i) : PE X (.Subscript o i pos) (tUGet w td ty) := by
  subst hw
  refine ⟨fun pins s σ H Q I h => ?_⟩
  refine subD_of PySem.F.slot_dict_getitem.lookup hs (thn (ho.run pins s σ H _ I h) fun u s1 ⟨x, H1, I1, rx, q1⟩ => thn (hi.run pins s1 σ H1 _ I1 q1) fun iv s2 ⟨y, H2, I2, ry, a, kvs, k, v, ex, g, n, hd, hv, q2⟩ => ?_)
  subst ex
  obtain rfl : u = Value.ref a := rx
  obtain ⟨_, _, _, _, _, _, _, _, _, _, _, ud⟩ := g.ud I2.hok
  exact ⟨ud.type, u_getItem hu I2 g n hd hv ry fun w' s3 I3 rw' => ⟨v, H2, I3, rw', q2⟩⟩
theorem pc_uin (hw : X.w = w) (hu : X.A.units + 64 < cLine) (hi : PE X i ty) (ho : PE X o td) : PC X .In i o (tUIn w ty td) := by
  subst hw
  refine ⟨fun pins s σ H Q I h => ?_⟩
  refine thn (hi.run pins s σ H _ I h) fun iv s1 ⟨y, H1, I1, ry, q1⟩ => thn (ho.run pins s1 σ H1 _ I1 q1) fun u s2 ⟨x, H2, I2, rx, a, kvs, k, ex, g, n, hd, q2⟩ => ?_
  subst ex
  obtain rfl : u = Value.ref a := rx
  exact u_in hu I2 g n hd ry fun s3 I3 => ⟨.bl (valV kvs k).isSome, H2, I3, rfl, q2⟩
theorem pc_unotin (hw : X.w = w) (hu : X.A.units + 64 < cLine) (hi : PE X i ty) (ho : PE X o td) : PC X .NotIn i o (tUNotIn w ty td) := by
  subst hw
  refine ⟨fun pins s σ H Q I h => ?_⟩
  refine thn (hi.run pins s σ H _ I h) fun iv s1 ⟨y, H1, I1, ry, q1⟩ => thn (ho.run pins s1 σ H1 _ I1 q1) fun u s2 ⟨x, H2, I2, rx, a, kvs, k, ex, g, n, hd, q2⟩ => ?_
  subst ex
  obtain rfl : u = Value.ref a := rx
  exact u_notIn hu I2 g n hd ry fun s3 I3 => ⟨.bl (!(valV kvs k).isSome), H2, I3, rfl, q2⟩
theorem ps_uput (hw : X.w = w) (hu : X.A.units + 64 < cLine) (ho : PE X o td) (hi : PE X i ty) (hv : PE X value tv) (hs : swapsWith value (some (.Subscript o i pos')) pos.line X.env = pure false) :
    PS X (.Assign [.Subscript o i pos'] value pos) (sUPut w td ty tv) := by
  subst hw
  refine ⟨fun pins s σ H D I h => ?_⟩
  refine wpAny_Assign_Subscript (thn (hv.run pins s σ H _ I h) fun r s1 ⟨v, H1, I1, rv, q1⟩ => thn (ho.run pins s1 σ H1 _ I1 q1) fun u s2 ⟨x, H2, I2, rx, q2⟩ => thn (hi.run pins s2 σ H2 _ I2 q2) fun iv s3 ⟨y, H3, I3, ry, a, kvs, k, ex, g, n, hd, hl, q3⟩ => ?_) hs
  subst ex
  obtain rfl : u = Value.ref a := rx
  exact u_setItem hu I3 g n hd hl ry rv fun H4 s4 p I4 => ⟨σ, H4, I4, q3 H4 p⟩
theorem pe_udisp (hw : X.w = w) (hu : X.A.units + 64 < cLine) (hk : PE X o tk) (hv : PE X value tv) : PE X (.Dict [some o] [value] pos) (tUDisp w tk tv) := by
  subst hw
  refine ⟨fun pins s σ H Q I q => ?_⟩
  have hn := I.hok.fresh (Nat.le_refl s.heap.objs.size)
  have I1 := I.laid (a := s.heap.objs.size) (o := UO X.w s.heap.objs.size []) (h' := s.heap.push { cls := .type "dict", data := .dict #[] }) (t' := s.toks) (fun _ _ q => Heap.get?_push_of_some _ q) (Nat.le_refl _) (u_empty s.heap I.big)
  rw [arm_eval_Dict, zip_pairTrees [some o] [value] X.env pos rfl rfl, dictDisplay_pairs _ (by intro z; cases z) (by show 1 < 17; decide)]
  refine wpAny_bind (wpAny_standAt (wpAny_bind ?_))
  unfold subDict
  refine wpAny_bind (wpAny_alloc ?_)
  refine wpAny_bind (wpAny_holding ?_)
  rw [if_pos (show (pairTrees [some o] [value] X.env pos).length ≤ 15 from (by decide : 1 ≤ 15))]
  refine wpAny_bind (pairTrees_cons_walk (thn (hk.run pins _ σ _ _ I1 (q _ hn _ u_new fun b hb => upd_ne hb)) fun u s1 ⟨x, H1, I2, rx, q1⟩ => thn (hv.run pins s1 σ H1 _ I2 q1) fun r s2 ⟨y, H2, I3, ry, g, k, n, hd, q2⟩ => pairTrees_nil_walk ?_))
  obtain ⟨xs, rs, ob, es, ep, ea, ks, c, hz, hs, rr, ud⟩ := g.ud I3.hok
  have ex : xs = [] := List.map_eq_nil_iff.mp c
  subst ex
  cases rr
  refine wpAny_holding ?_
  rw [List.forIn_cons]
  refine wpAny_bind (wpAny_bind (wpAny_bind (set_u (by omega) ud (n.is I3.hok rx) hd (Nat.zero_le _) fun h' o' es' ep' ud' sb => wpAny_pure ?_)))
  dsimp only
  rw [List.forIn_nil]
  have nt : ∀ b ys, H2 b = some (.tup ys) → (upd H2 s.heap.objs.size (UO X.w s.heap.objs.size (putX [] k x y))) b = some (.tup ys) := fun b ys e => by
    rw [upd_ne (ne_of e ea (by intro z; cases z))]
    exact e
  refine wpAny_pure (wpAny_pure (wpAny_pure (wpAny_pure ⟨.ref s.heap.objs.size, upd H2 s.heap.objs.size (UO X.w s.heap.objs.size (putX [] k x y)), ?_, rfl, q2 _ ⟨⟨_, upd_same, fun t ht => ?_, rfl⟩, fun b hb => upd_ne hb⟩⟩)))
  · exact d_write I3 (by rw [ea]; exact True.intro) sb ⟨_, ud'.get⟩ (uo_ok (by show 1 ≤ sizeLine; decide) hs (RR.put (xs := []) (rs := []) .nil List.nodup_nil k rx ry) ud')
  · rw [List.mem_singleton.mp ht]
    exact ⟨n.mono nt, hd⟩
end
/-- len(d) -/
theorem call_lenU {X : Cx} (w : World) (hw : X.w = w) : CallR X (.builtin "len") (fun xs H Q => ∃ a kvs, xs = [V.ref a] ∧ UAt w H a kvs ∧ Q (.int kvs.length) H) := by
  subst hw
  intro pins s σ H xs us Q I r h
  obtain ⟨a, kvs, rfl, g, q⟩ := h
  obtain ⟨u, rfl, ru⟩ := vals1 r
  cases ru
  obtain ⟨ys, rs, ob, es, ep, ea, ks, c, hz, hs, rr, ud⟩ := g.ud I.hok
  have sz : (es.size : Int) = (kvs.length : Int) := by
    rw [ud.size, ← rr.len, ← c, List.length_map]
  have fit : (kvs.length : Int) < 2 ^ 63 := by
    rw [← sz, ud.size, ← rr.len]
    rw [sizeLine_eq] at hz
    omega
  refine Calls.call_function_entry kind_len plain_len entry_len (args_len1 _) ?_
  unfold Builtin.«len»
  refine wpAny_bind (m := oneArg "len" _) (wpAny_pure ?_)
  refine wpAny_bind (m := callSpecial? (.ref a) (Str.ofString "__len__")) (wpAny_callSpecial?_slot (name := Str.ofString "__len__") ud.type PySem.F.slot_dict_len (wpAny_call_entry PySem.F.slot_dict_len ud.type PySem.F.entry_dict_len ?_ (PySem.F.args_dict_len_1 _)))
  show wpAny _ _ (dictSize a >>= _) _ _ s
  unfold dictSize
  refine wpAny_bind (wpAny_bind (wpAny_dictEntries ud.get ud.data (wpAny_pure ?_)))
  show wpAny _ _ (Builtin.Dict.pendingCount a >>= _) _ _ s
  refine wpAny_bind (wpAny_pendingCount_other hs ?_)
  refine wpAny_ret_mkInt ?_
  have e0 : (es.size : Int) + ((0 : Nat) : Int) = (kvs.length : Int) := (Int.add_zero _).trans sz
  rw [e0]
  show wpAny _ _ _ _ _ { s with toks := s.toks + 1 }
  refine wpAny_bind (wpAny_holding (wpAny_pure ?_))
  refine wpAny_bind (wpAny_letGo ?_)
  show wpAny _ _ (if ((kvs.length : Nat) : Int) < 0 then _ else _) _ _ _
  rw [if_neg (by omega)]
  show wpAny _ _ (if ((kvs.length : Nat) : Int) ≥ 2 ^ 63 then _ else _) _ _ _
  rw [if_neg (by omega)]
  exact wpAny_bind (wpAny_mkInt (wpAny_pure ⟨_, rfl, .int kvs.length, H, I.tok _, ⟨_, rfl⟩, q⟩))
end LU

namespace LH
open PySem PySem.Spec PyProof.Rows L2 NdefX
/-! ### the entry of a nested def that has cells of its own beside the captured ones -/
theorem cellsFrom_app : ∀ (names : List (Str × NameKind)) (n : Nat) (acc : List (Str × Addr)), cellsFrom n names acc = cellsFrom n names [] ++ acc
  | [], _, _ => rfl
  | (name, kind) :: r, n, acc => by
    unfold cellsFrom
    split
    · rw [cellsFrom_app r (n + 1) ((name, n) :: acc), cellsFrom_app r (n + 1) [(name, n)], List.append_assoc]
      rfl
    · exact cellsFrom_app r n acc
theorem mem_cellsFrom : ∀ {names : List (Str × NameKind)} {n : Nat} {acc : List (Str × Addr)} {x : Str} {c : Addr}, (x, c) ∈ cellsFrom n names acc → (x, c) ∈ acc ∨ (x, NameKind.cell) ∈ names
  | [], _, _, _, _, h => .inl h
  | (name, kind) :: r, n, acc, x, c, h => by
    unfold cellsFrom at h
    split at h
    · rename_i hk
      rcases mem_cellsFrom h with q | q
      · rcases List.mem_cons.mp q with e | q
        · cases e
          have : kind = .cell := beq_iff_eq.mp hk
          subst this
          exact .inr List.mem_cons_self
        · exact .inl q
      · exact .inr (List.mem_cons_of_mem _ q)
    · rcases mem_cellsFrom h with q | q
      · exact .inl q
      · exact .inr (List.mem_cons_of_mem _ q)
section
variable {M : Model} {A : Around} {E : Value → Shared → Prop} {s₀ s : Shared} {m cm : Str → Option Value} {env : Env} {own : List (Str × Addr)}
theorem stL_own {n : Str} {v : Value} {Q : Unit → Shared → Prop} (x : InCallC s₀ env.locals m own cm s) (hk : env.scope.kind = .function) (hl : env.kindOf n = some .local)
    (h : ∀ s', InCallC s₀ env.locals (fun y => if y = n then some v else m y) own cm s' → Q () s') : wpAny M A (storeName env n v) Q E s := by
  refine wpAny_storeName_local hl x.toInCall.ns (fun h' hn' hs' => h _ ⟨⟨?_, hn', fun b o e => ?_, x.toInCall.fresh⟩, fun k c hc => ?_, x.apart, x.above⟩) (by rw [hk]; rfl)
  · obtain ⟨h₁, tk, rfl⟩ := x.toInCall.same
    exact ⟨h', _, rfl⟩
  · exact hs'.extBut b o (Nat.ne_of_lt (Nat.lt_of_lt_of_le (Heap.lt_size e) x.toInCall.fresh)) (x.toInCall.keep b o e)
  · exact (x.cell k c hc).sameBut hs' (Nat.ne_of_gt (x.above k c (PySem.mem_of_lookup hc)))
theorem stC_own {n : Str} {c : Addr} {v : Value} {Q : Unit → Shared → Prop} (x : InCallC s₀ env.locals m own cm s) (hk : env.scope.kind = .function) (hl : env.kindOf n = some .cell)
    (ho : own.lookup n = some c) (hc : env.cells.lookup n = some c)
    (h : ∀ s', InCallC s₀ env.locals m own (fun y => if y = n then some v else cm y) s' → Q () s') : wpAny M A (storeName env n v) Q E s := by
  have hLc := x.above n c (PySem.mem_of_lookup ho)
  refine wpAny_storeName_cell hk hl hc (x.cell n c ho) fun h' hc' hs' => h _ ⟨⟨?_, x.toInCall.ns.sameBut hs' (Nat.ne_of_lt hLc), fun b o e => ?_, x.toInCall.fresh⟩, fun k c' hk' => ?_, x.apart, x.above⟩
  · obtain ⟨h₁, tk, rfl⟩ := x.toInCall.same
    exact ⟨h', _, rfl⟩
  · exact hs'.extBut b o (Nat.ne_of_lt (Nat.lt_trans (Nat.lt_of_lt_of_le (Heap.lt_size e) x.toInCall.fresh) hLc)) (x.toInCall.keep b o e)
  · by_cases hkn : k = n
    · subst hkn
      rw [ho] at hk'; cases hk'
      simpa using hc'
    · rw [if_neg hkn]
      exact (x.cell k c' hk').sameBut hs' fun e => hkn (name_of_addr x.apart (PySem.mem_of_lookup hk') (e ▸ PySem.mem_of_lookup ho))
theorem wpAny_bind_own (f : Str × Value → PUnit → Sem (ForInStep PUnit)) (hf : ∀ n v u, f (n, v) u = (do storeName env n v; pure (.yield ⟨⟩))) (hk : env.scope.kind = .function) (hsub : ∀ n c, own.lookup n = some c → env.cells.lookup n = some c) :
    ∀ (binds : List (Str × Value)) (m cm : Str → Option Value) (s : Shared) (Q : PUnit → Shared → Prop), InCallC s₀ env.locals m own cm s →
      (∀ x ∈ binds, env.kindOf x.1 = some .local ∨ (env.kindOf x.1 = some .cell ∧ (own.lookup x.1).isSome = true)) →
      (∀ s', InCallC s₀ env.locals (bindL env.kindOf binds m) own (bindC env.kindOf binds cm) s' → Q ⟨⟩ s') → wpAny M A (forIn binds ⟨⟩ f) Q E s
  | [], m, cm, s, Q, x, _, h => by rw [List.forIn_nil]; exact wpAny_pure (h s x)
  | (n, v) :: r, m, cm, s, Q, x, hkind, h => by
    rw [List.forIn_cons, hf]
    have hr : ∀ y ∈ r, env.kindOf y.1 = some .local ∨ (env.kindOf y.1 = some .cell ∧ (own.lookup y.1).isSome = true) := fun y hy => hkind y (List.mem_cons_of_mem _ hy)
    rcases hkind (n, v) List.mem_cons_self with hl | ⟨hl, hc⟩
    · refine wpAny_bind (wpAny_bind (stL_own x hk hl fun s' x' => wpAny_pure (wpAny_bind_own f hf hk hsub r _ _ s' Q x' hr fun s'' x'' => h s'' ?_)))
      unfold bindL bindC; rw [if_pos hl, if_pos hl]; exact x''
    · obtain ⟨c, hc⟩ := Option.isSome_iff_exists.mp hc
      have hnl : ¬ env.kindOf n = some .local := by rw [hl]; decide
      refine wpAny_bind (wpAny_bind (stC_own x hk hl hc (hsub n c hc) fun s' x' => wpAny_pure (wpAny_bind_own f hf hk hsub r _ _ s' Q x' hr fun s'' x'' => h s'' ?_)))
      unfold bindL bindC; rw [if_neg hnl, if_neg hnl]; exact x''
end
section
variable {M : Model} {A : Around} {E : Value → Shared → Prop} {s : Shared}
theorem wpAny_newFunctionEnv_own {scope : Scope} {globals : Addr} {cl : List (Str × Addr)} {binds : List (Str × Value)} {qual : Str} {func : Option Addr} {code : Value} {builtins : Addr} {Q : Env → Shared → Prop}
    (hk : scope.kind = .function)
    (hkind : ∀ x ∈ binds, scope.names.lookup x.1 = some .local ∨ (scope.names.lookup x.1 = some .cell ∧ ((cellsFrom (s.heap.objs.size + 1) scope.names []).lookup x.1).isSome = true))
    (hQ : ∀ env, env = newEnv scope s.heap.objs.size globals (cellsFrom (s.heap.objs.size + 1) scope.names [] ++ cl) qual func code none builtins →
      ∀ s', InCallC s env.locals (bindL env.kindOf binds fun _ => none) (cellsFrom (s.heap.objs.size + 1) scope.names []) (bindC env.kindOf binds fun _ => none) s' → Q env s') :
    wpAny M A (newFunctionEnv scope globals cl binds qual func code none builtins) Q E s := by
  simp only [newFunctionEnv, Option.isSome_none, Bool.false_eq_true, if_false]
  refine wpAny_bind (wpAny_alloc ?_)
  refine wpAny_bind (wpAny_layCells _ (fun name kind cells => by cases hkc : kind == NameKind.cell <;> simp [hkc]) _ _ _ _ ?_)
  have ok := cellsFrom_ok scope.names (s.heap.push { cls := .type "frame", data := .dict #[] }) (s.heap.objs.size + 1) [] ⟨fun _ _ hm => (nomatch hm), List.Pairwise.nil⟩ (by rw [Heap.size_push]; exact Nat.le_refl _)
  rw [Heap.size_push] at ok
  rw [show ({ s with heap := s.heap.push { cls := .type "frame", data := .dict #[] } } : Shared).heap.objs.size = s.heap.objs.size + 1 from Heap.size_push .., cellsFrom_app scope.names _ cl]
  refine wpAny_bind (wpAny_bind_own (s₀ := s) (own := cellsFrom (s.heap.objs.size + 1) scope.names []) (env := newEnv scope s.heap.objs.size globals (cellsFrom (s.heap.objs.size + 1) scope.names [] ++ cl) qual func code none builtins)
    _ (fun _ _ _ => rfl) hk (fun n c h => by show (cellsFrom (s.heap.objs.size + 1) scope.names [] ++ cl).lookup n = some c; rw [List.lookup_append, h]; rfl) binds (fun _ => none) (fun _ => none) _ _
    ⟨⟨⟨_, _, rfl⟩, (Heap.Ns.new s.heap (.type "frame")).keeps (pushCells_keeps _ _), fun b o e => pushCells_keeps _ _ b o (Heap.get?_push_of_some _ e), Nat.le_refl _⟩,
      fun n c hc => (ok.empty n c (PySem.mem_of_lookup hc)).1, ok.apart, fun n c hm => (ok.empty n c hm).2⟩
    hkind fun s' x => wpAny_pure (hQ _ rfl s' x))
end
end LH

namespace LH
open PySem PySem.Spec PyProof.Rows L2 NdefX LamX
/-- a nested def's names: parameters (local or a cell of its own), captured ones, locals -/
structure NScC (N ps fr : List Str) (sc : Scope) : Prop where
  kind : sc.kind = .function
  co : sc.isCoroutine = false
  gen : sc.isGenerator = false
  nd : N.Nodup
  pre : N.take (ps.length + fr.length) = ps ++ fr
  par : ∀ x ∈ ps, sc.names.lookup x = some .local ∨ sc.names.lookup x = some .cell
  free : ∀ y ∈ sc.names, y.2 = .free → y.1 ∈ fr
  frk : ∀ x ∈ fr, sc.names.lookup x = some .free
  frn : ∀ x ∈ fr, (x, NameKind.cell) ∉ sc.names
def nscC (N ps fr : List Str) (sc : Scope) : Bool :=
  decide (sc.kind = .function) && !sc.isCoroutine && !sc.isGenerator && decide N.Nodup && decide (N.take (ps.length + fr.length) = ps ++ fr) && ps.all (fun x => decide (sc.names.lookup x = some .local) || decide (sc.names.lookup x = some .cell)) && sc.names.all (fun y => !decide (y.2 = .free) || decide (y.1 ∈ fr)) && fr.all (fun x => decide (sc.names.lookup x = some .free)) && fr.all (fun x => sc.names.all fun y => !(decide (y.1 = x) && decide (y.2 = .cell)))
theorem nscC_by {N ps fr : List Str} {sc : Scope} (h : nscC N ps fr sc = true) : NScC N ps fr sc := by
  unfold nscC at h
  simp only [Bool.and_eq_true, Bool.not_eq_true', decide_eq_true_eq, List.all_eq_true, Bool.or_eq_true, decide_eq_false_iff_not, Bool.and_eq_false_iff] at h
  obtain ⟨⟨⟨⟨⟨⟨⟨⟨h1, h2⟩, h3⟩, h4⟩, h5⟩, h6⟩, h7⟩, h8⟩, h9⟩ := h
  exact ⟨h1, h2, h3, h4, h5, h6, fun y hy e => (h7 y hy).elim (fun z => absurd e z) id, h8, fun x hx hm => (h9 x hx _ hm).elim (fun z => z rfl) fun z => z rfl⟩
abbrev ownC (F : NF) (L : Addr) : List (Str × Addr) := cellsFrom (L + 1) F.scope.names []
abbrev envFC (F : NF) (f L : Addr) : Env := PySem.W.envX F.qual F.scope L f (.ref F.c) (ownC F L ++ F.cl)
/-- the context of its body, at its entry -/
def ncxC (CX : CXT) (P : Program) (w : World) (K : PySem.W.Frag) (mg : Str → Option Value) (base : Heap) (N : List Str) (F : NF) (f : Addr) (A : Around) (outer : List Env) (s : Shared) (H : Hp) (E : XK) : Cx where
  prog := P
  w := w
  K := K
  mg := mg
  base := base
  A := A.deeper (envFC F f s.heap.objs.size)
  N := N
  s_0 := s
  H_0 := H
  env := envFC F f s.heap.objs.size
  outer := outer
  stack := envFC F f s.heap.objs.size :: outer
  ex := []
  calm := true
  fn := fun y => decide (F.scope.names.lookup y = some .cell)
  pn := []
  xe := fun e s' => wpAny (model P w) (A.deeper (envFC F f s.heap.objs.size)) (leaving (envFC F f s.heap.objs.size) e) (fun _ s'' => CX outer H s E e s'') (fun e' s'' => CX outer H s E e' s'') s'
section
variable {CX : CXT} {P : Program} {w : World} {K : PySem.W.Frag} {mg : Str → Option Value} {base : Heap} {N ps fr : List Str} {F : NF} {f : Addr} {A : Around} {outer : List Env} {s s1 : Shared} {H : Hp} {E : XK} {us : List Value} {vs : List V} {ws : List (Option V)}
theorem inv_startC (S : NScC N ps fr F.scope) (hd : A.handled = none) (e0 : Env0 P w K mg base A outer s H) (hl : vs.length = ps.length) (r : Vals vs us) (C : CellsAt F.cl fr ws s.heap H)
    (x : InCallC s s.heap.objs.size (bindL (envFC F f s.heap.objs.size).kindOf (ps.zip us) fun _ => none) (ownC F s.heap.objs.size) (bindC (envFC F f s.heap.objs.size).kindOf (ps.zip us) fun _ => none) s1) :
    Inv (ncxC CX P w K mg base N F f A outer s H E) [] (startF N vs ws) H s1 := by
  have hpl : ps.length + fr.length ≤ N.length := by
    have q := congrArg List.length S.pre
    rw [List.length_take, List.length_append] at q
    omega
  obtain ⟨h1, tk, rfl, kp⟩ := x.done
  have noA : ∀ b : Addr, b ∉ (ncxC CX P w K mg base N F f A outer s H E).ex := fun b z => absurd (show b ∈ ([] : List Addr) from z) (by simp)
  have cellK : ∀ {c : Addr} {v : Option Value}, s.heap.IsCell c v → h1.IsCell c v := fun {c v} ⟨o, ho, hd⟩ => ⟨o, kp _ _ ho, hd⟩
  have lo : ∀ {y : Str} {c : Addr}, (ownC F s.heap.objs.size).lookup y = some c → (ownC F s.heap.objs.size ++ F.cl).lookup y = some c := fun {y c} e => by rw [List.lookup_append, e]; rfl
  have lc : ∀ {y : Str} {c : Addr}, (ownC F s.heap.objs.size ++ F.cl).lookup y = some c → (ownC F s.heap.objs.size).lookup y = some c ∨ ((ownC F s.heap.objs.size).lookup y = none ∧ F.cl.lookup y = some c) := fun {y c} e => by
    rw [List.lookup_append] at e
    cases q : (ownC F s.heap.objs.size).lookup y with
    | none =>
      rw [q] at e
      exact .inr ⟨rfl, e⟩
    | some d =>
      rw [q] at e
      exact .inl e
  have lf : ∀ {y : Str} {c : Addr}, y ∈ fr → F.cl.lookup y = some c → (ownC F s.heap.objs.size ++ F.cl).lookup y = some c := fun {y c} hy e => by
    rw [List.lookup_append]
    cases q : (ownC F s.heap.objs.size).lookup y with
    | none => exact e
    | some d =>
      rcases mem_cellsFrom (PySem.mem_of_lookup q) with z | z
      · cases z
      · exact absurd z (S.frn y hy)
  have up : ∀ {y : Str} {c : Addr}, (ownC F s.heap.objs.size).lookup y = some c → s.heap.objs.size ≤ c := fun {y c} e => Nat.le_of_lt (x.above y c (PySem.mem_of_lookup e))
  have dn : ∀ {y : Str} {c : Addr}, F.cl.lookup y = some c → c < s.heap.objs.size := fun {y c} e => by
    obtain ⟨v, z⟩ := (C.all y c e).2
    exact z.lt
  refine ⟨⟨e0.mod, S.kind, rfl, rfl, Nat.le_refl _, fun y z c e1 e2 => ?_, fun y hy => ?_, fun y c z e => ?_, fun _ => hd, Around.frames_deeper e0.frames, .inr ⟨rfl, rfl⟩, fun b z => absurd z (noA b), e0.bs, e0.bsz, fun b _ _ => noA b,
      fun b z => absurd z (noA b), e0.funs, e0.frf⟩,
    rfl, e0.bare, Un.kept kp, ⟨_, x.toInCall.ns, fun i y v e1 e2 e3 => ?_⟩, fun y c e => ?_, e0.hok.fresh (Nat.le_refl _), fun y c e => ?_, fun q hq => absurd (show q ∈ ([] : List (Addr × Obj)) ++ [] from hq) (by simp), e0.hok.kept kp, ?_⟩
  · rcases lc e1 with a | ⟨_, a⟩ <;> rcases lc e2 with b | ⟨_, b⟩
    · exact name_of_addr x.apart (PySem.mem_of_lookup a) (PySem.mem_of_lookup b)
    · exact absurd (up a) (Nat.not_le_of_lt (dn b))
    · exact absurd (up b) (Nat.not_le_of_lt (dn a))
    · exact C.inj y z c a b
  · have hy : F.scope.names.lookup y = some .cell ∨ F.scope.names.lookup y = some .free := hy
    rcases hy with hy | hy
    · obtain ⟨c, e⟩ := cell_has (n := s.heap.objs.size + 1) hy
      exact ⟨c, lo e⟩
    · have hf := S.free _ (PySem.mem_of_lookup hy) rfl
      obtain ⟨i, hi⟩ := List.mem_iff_getElem?.mp hf
      obtain ⟨c, hc, _⟩ := C.has i y hi
      exact ⟨c, lf hf hc⟩
  · have z : F.scope.names.lookup y = some .cell := of_decide_eq_true z
    rcases lc e with a | ⟨a, _⟩
    · exact up a
    · obtain ⟨c', e'⟩ := cell_has (n := s.heap.objs.size + 1) z
      have a : (ownC F s.heap.objs.size).lookup y = none := a
      rw [show (ownC F s.heap.objs.size).lookup y = some c' from e'] at a
      cases a
  · have e1 : N[i]? = some y := e1
    have clen := C.len
    unfold startF at e2
    by_cases h1 : i < ps.length
    · have hq : (ps ++ fr)[i]? = some y := by
        rw [← S.pre, List.getElem?_take_of_lt (by omega)]
        exact e1
      rw [List.getElem?_append_left h1] at hq
      rw [List.getElem?_append_left (by rw [List.length_map]; omega), List.getElem?_map] at e2
      have ha : vs[i]? = some v := by
        cases e : vs[i]? with
        | none => rw [e] at e2; cases e2
        | some a => rw [e] at e2; cases e2; rfl
      obtain ⟨u, hu, rv⟩ := r.get ha
      have ndP : ps.Nodup := by
        have q := S.nd.sublist (List.take_sublist (ps.length + fr.length) N)
        rw [S.pre] at q
        exact (List.nodup_append.mp q).1
      refine ⟨u, rv, ?_⟩
      rcases S.par y (List.mem_of_getElem? hq) with k | k
      · exact .inl ⟨k, bindL_get ndP hq hu k⟩
      · obtain ⟨c, e⟩ := cell_has (n := s.heap.objs.size + 1) k
        refine .inr ⟨.inl k, c, lo e, ?_⟩
        have q := x.cell y c e
        rw [bindC_get ndP hq hu (by show F.scope.names.lookup y ≠ _; rw [k]; decide)] at q
        exact q
    · rw [List.getElem?_append_right (by rw [List.length_map]; omega), List.length_map] at e2
      by_cases h2 : i < ps.length + fr.length
      · have hq : (ps ++ fr)[i]? = some y := by
          rw [← S.pre, List.getElem?_take_of_lt (by omega)]
          exact e1
        rw [List.getElem?_append_right (by omega)] at hq
        rw [List.getElem?_append_left (by omega), hl] at e2
        obtain ⟨c, hc, hv⟩ := C.has (i - ps.length) y hq
        obtain ⟨u, ru, hu⟩ := hv v e2
        have hm := List.mem_of_getElem? hq
        exact ⟨u, ru, .inr ⟨.inr (S.frk y hm), c, lf hm hc, cellK hu⟩⟩
      · rw [List.getElem?_append_right (by omega), List.getElem?_replicate] at e2
        split at e2 <;> cases e2
  · rcases lc e with a | ⟨_, a⟩
    · exact ⟨_, x.cell y c a⟩
    · obtain ⟨v, z⟩ := (C.all y c a).2
      exact ⟨v, cellK z⟩
  · rcases lc e with a | ⟨_, a⟩
    · exact e0.hok.fresh (up a)
    · exact (C.all y c a).1
  · have clen := C.len
    unfold startF
    show _ = N.length
    rw [List.length_append, List.length_append, List.length_map, List.length_replicate]
    omega
end
section
variable {CX : CXT} {P : Program} {w : World} {K : PySem.W.Frag} {mg : Str → Option Value} {base : Heap} {N ps fr : List Str} {F : NF} {f : Addr} {k : Nat} {sp : List (Option V) → Sp}
/-- a nested def by its body, with cells of its own -/
theorem nok_ofC (S : NScC N ps fr F.scope) (hb : ∀ (doc pm ctv : Value) (us : List Value), us.length = ps.length → bindArgs (F.fd doc pm ctv) ⟨us, []⟩ = pure (ps.zip us)) (len : ∀ ws vs H Q E, sp ws vs H Q E → vs.length = ps.length)
    (hbody : ∀ (A : Around) (outer : List Env) (s : Shared) (H : Hp) (vs : List V) (ws : List (Option V)) (Q : VK) (E : XK), Room k (A.deeper (envFC F f s.heap.objs.size)) → H f = some (FnO f F) → H F.c = some (CodeO F.c F.qual) → ws.length = fr.length → sp ws vs H Q E →
      ∃ t, PSs (ncxC CX P w K mg base N F f A outer s H E) F.body t ∧ t { nx := fun _ H' => Q .non H', rt := Q } (startF N vs ws) H) :
    NOk P w K mg base CX (k + 1) f F ps fr sp := by
  refine ⟨len, fun A outer s H us vs ws Q E hr e0 hf hc C r hsp => ?_⟩
  have hl := len _ _ _ _ _ hsp
  have lim : s.heap.NoLimit := e0.mod.nolimit.keeps fun b o e => (e0.bs b o e).1
  obtain ⟨od, sl, doc, pm, ctv, ho⟩ := fnO_at e0.hok hf
  have hkind : ∀ y ∈ ps.zip us, F.scope.names.lookup y.1 = some .local ∨ (F.scope.names.lookup y.1 = some .cell ∧ ((cellsFrom (s.heap.objs.size + 1) F.scope.names []).lookup y.1).isSome = true) := fun ⟨n, v⟩ hy => by
    rcases S.par n (List.of_mem_zip hy).1 with q | q
    · exact .inl q
    · exact .inr ⟨q, PySem.W.cellsFrom_some _ _ _ (.inl q)⟩
  refine codeAny_call_function hr.depth ho rfl S.co S.gen rfl (codeO_at e0.hok hc) ?_
  rw [hb doc pm ctv us (by rw [← r.length]; exact hl)]
  refine wpAny_pure (wpAny_newFunctionEnv_own S.kind hkind fun env he s1 x => ?_)
  subst he
  refine ⟨lim.keeps x.toInCall.keep, codeAny_func ?_⟩
  obtain ⟨t, ht, hq⟩ := hbody A outer s H vs ws Q E (hr.deeper _) hf hc C.len hsp
  have I : Inv (ncxC CX P w K mg base N F f A outer s H E) [] (startF N vs ws) H s1 := inv_startC S hr.hd e0 hl r C x
  refine wpAny_mono (ht.run [] s1 (startF N vs ws) H _ I hq) (fun fl s' hs => ?_) fun e s' hs => hs
  have fin : ∀ {σ' : L2.St} {H' : Hp} {v : V} {u : Value}, Inv (ncxC CX P w K mg base N F f A outer s H E) [] σ' H' s' → L2.RelV v u → Q v H' → CE outer P w H s Q u s' :=
    fun {σ' H' v u} J rv q => ⟨v, H', J.os, J.bare, J.base, J.hok, rv, q⟩
  cases fl with
  | ret u =>
    obtain ⟨v, σ', H', J, rv, q⟩ := hs
    exact fin J rv q
  | next =>
    obtain ⟨σ', H', J, q⟩ := hs
    exact fin (v := V.non) (u := Value.none) J rfl q
  | brk =>
    obtain ⟨_, _, _, q⟩ := hs
    exact False.elim q
  | cont =>
    obtain ⟨_, _, _, q⟩ := hs
    exact False.elim q
end
end LH

namespace LU
open PySem PySem.Spec PyProof.Rows L2 LH
/-- a statement that is never come to -/
theorem ps_never {X : Cx} {st : Stmt} : PS X st (fun _ _ _ => False) := ⟨fun _ _ _ _ _ _ h => h.elim⟩
def tMidU (t : TE) : TE := fun σ H Q => ∃ M : V → Hp → Prop, t σ H M ∧ ∀ v H', M v H' → Q v H'
/-- an expression of which some ways end alike -/
theorem pe_midU {X : Cx} {e : Expr} {t : TE} (h : PE X e t) : PE X e (tMidU t) := by
  refine ⟨fun pins s σ H Q I q => ?_⟩
  obtain ⟨M, h1, h2⟩ := q
  refine thn (h.run pins s σ H _ I h1) fun u s1 ⟨x, H1, I1, r, m⟩ => ?_
  exact ⟨x, H1, I1, r, h2 x H1 m⟩
/-! ### sorted(dict), its keys pairs of numbers -/
def pk (q : Int × Int) : NestedKey := .tup [.num q.1, .num q.2]
def unpk : NestedKey → Int × Int
  | .tup [.num a, .num b] => (a, b)
  | _ => (0, 0)
def leP (a b : Int × Int) : Prop := a.1 < b.1 ∨ (a.1 = b.1 ∧ a.2 ≤ b.2)
instance (a b : Int × Int) : Decidable (leP a b) := inferInstanceAs (Decidable (_ ∨ _))
def dPk (q : Int × Int) : PyData := .tuple [.int q.1, .int q.2]
theorem le_dPk (a b : Int × Int) : PySem.W.dataLe false dPk a b = decide (leP a b) := by
  have e : decide (leP a b) = decide (a.1 < b.1 ∨ (a.1 = b.1 ∧ a.2 ≤ b.2)) := decide_eq_decide.mpr Iff.rfl
  rw [e]
  show (!PySem.W.dataLt (dPk b) (dPk a)) = _
  unfold dPk
  rw [PySem.W.dataLt_pair (by simp [PySem.W.alike]) (by simp [PySem.W.alike]), PySem.W.dataLt_int, PySem.W.dataLt_int]
  simp only [PyData.eqv, beq_iff_eq]
  by_cases h : b.1 = a.1
  · rw [if_pos h, h]
    by_cases e : b.2 = a.2
    · rw [if_pos e, e]
      simp
    · rw [if_neg e, PySem.W.not_lt_int]
      simp
  · rw [if_neg h, PySem.W.not_lt_int]
    have h' : ¬ a.1 = b.1 := fun z => h z.symm
    simp only [h', false_and, or_false]
    by_cases q : a.1 < b.1
    · rw [decide_eq_true q, decide_eq_true (by omega)]
    · rw [decide_eq_false q, decide_eq_false (by omega)]
theorem trio_pk {H : Hp} {q : Int × Int} {v : V} (h : NV H (pk q) v) : ∃ t, v = .ref t ∧ H t = some (.tup [.int q.1, .int q.2]) := by
  cases h with
  | tup e r =>
    cases r with
    | cons a r =>
      cases r with
      | cons b r =>
        cases r
        cases a
        cases b
        exact ⟨_, rfl, e⟩
theorem call_sortedU {X : Cx} (w : World) (hw : X.w = w) (hu : X.A.units + 64 < cLine) (hc : X.calm = true) : CallR X (.builtin "sorted") (fun xs H Q => ∃ (a : Addr) (kvs : List (NestedKey × V)) (ks : List (Int × Int)), xs = [V.ref a] ∧ UAt w H a kvs ∧ kvs.map (·.1) = ks.map pk ∧
    ∀ (p : Addr) (vs : List V) (ls : List (Int × Int)), H p = none → ls.Perm ks → ls.Pairwise leP → NVs H (ls.map pk) vs → Q (.ref p) (upd H p (.lst vs))) := by
  subst hw
  intro pins s σ H xs us Q I r h
  obtain ⟨a, kvs, ks, rfl, g, hk, q⟩ := h
  obtain ⟨u, rfl, ru⟩ := vals1 r
  cases ru
  obtain ⟨ys, rs, ob, es, ep, ea, ksd, c, hz, hs, rr, ud⟩ := g.ud I.hok
  have l1 : es.size = rs.length := ud.size
  have l2 : ys.length = rs.length := rr.len
  have ck : ys.map (·.1) = ks.map pk := by rw [← hk, ← c, List.map_map]; rfl
  have l3 : ys.length = ks.length := by
    have := congrArg List.length ck
    rwa [List.length_map, List.length_map] at this
  refine Calls.call_function_entry PyProof.Rows.kind_sorted PyProof.Rows.plain_sorted PyProof.Rows.entry_sorted (PyProof.Rows.args_sorted1 _) ?_
  unfold Builtin.«sorted»
  refine wpAny_bind (m := checkCount "sorted" 1 1 _) (wpAny_pure ?_)
  refine wpAny_bind (PySem.W.kdu_collect (A := X.A.in1) (kdl_raw hs ud.exact_ ud.data) (I.ok.hd hc) ud.get (by omega) fun h' tk acc hk' hacc => ?_)
  have I1 : Inv X pins σ H { s with heap := h', toks := tk } := I.kept hk'
  have hal : acc.toList.length = ys.length := by rw [Array.length_toList, hacc.1, l1, l2]
  -- the items
  have item : ∀ (j : Nat) (v : Value), acc.toList[j]? = some v → ∃ x, ys[j]? = some x ∧ RelV x.2.1 v := fun j v e => by
    obtain ⟨en, e1, rfl⟩ := hacc.2 j v (by rw [← Array.getElem?_toList]; exact e)
    have e2 := ud.at_ j
    rw [e1] at e2
    cases hj : rs[j]? with
    | none => rw [hj] at e2; cases e2
    | some y =>
      rw [hj] at e2
      obtain rfl : en = ent X.w y := Option.some.inj e2
      obtain ⟨x, hx, _, r1, _⟩ := rr.at_ hj
      exact ⟨x, hx, r1⟩
  have each : ∀ (R : Value → Trio → Prop), (∀ v x, x ∈ ys → RelV x.2.1 v → R v x) → PySem.W.EachIs R acc.toList ys := fun R hR => by
    have go : ∀ (as : List Value) (zs : List Trio), as.length = zs.length → (∀ x ∈ zs, x ∈ ys) → (∀ (j : Nat) (v : Value), as[j]? = some v → ∃ x, zs[j]? = some x ∧ RelV x.2.1 v) → PySem.W.EachIs R as zs := by
      intro as
      induction as with
      | nil =>
        intro zs hl _ _
        cases zs with
        | nil => exact .nil
        | cons _ _ => simp at hl
      | cons v as ih =>
        intro zs hl hm hi
        cases zs with
        | nil => simp at hl
        | cons z zs =>
          obtain ⟨x, hx, rx⟩ := hi 0 v rfl
          obtain rfl : z = x := Option.some.inj hx
          exact .cons (hR _ _ (hm _ List.mem_cons_self) rx) (ih zs (by simpa using hl) (fun y hy => hm y (List.mem_cons_of_mem _ hy)) fun j v e => hi (j + 1) v e)
    exact go _ _ hal (fun _ h => h) item
  refine wpAny_bind (wpAny_newList ?_ (by rw [hal]; exact hz))
  have hoL : (h'.push (seqObj "list" acc.toList.toArray 0)).get? h'.objs.size = some (seqObj "list" acc.toList.toArray 0) := Heap.get?_push_size _ rfl
  show wpAny _ _ _ _ _ { s with heap := h'.push (seqObj "list" acc.toList.toArray 0), toks := tk }
  have key : ∀ x ∈ ys, ∃ qq : Int × Int, x.1 = pk qq ∧ unpk x.1 = qq := fun x hx => by
    have : x.1 ∈ ks.map pk := by rw [← ck]; exact List.mem_map.mpr ⟨x, hx, rfl⟩
    obtain ⟨qq, _, e⟩ := List.mem_map.mp this
    exact ⟨qq, e.symm, by rw [← e]; rfl⟩
  have old : ∀ b o, h'.get? b = some o → (h'.push (seqObj "list" acc.toList.toArray 0)).get? b = some o := fun b o e => Heap.get?_push_of_some _ e
  have e1 := each (fun v x => RelV x.2.1 v) fun _ _ _ h => h
  have e2 := each (fun v x => ∃ as, Reads (h'.push (seqObj "list" acc.toList.toArray 0)) v (dPk (unpk x.1)) as ∧ h'.objs.size ∉ as) fun v x hx rx => by
    obtain ⟨qq, k1, k2⟩ := key x hx
    have nv := (ksd x hx).1
    rw [k1] at nv
    obtain ⟨t, k3, k4⟩ := trio_pk nv
    rw [k3] at rx
    obtain rfl : v = Value.ref t := rx
    obtain ⟨_, its2, r2, o, ho, hcl, n, hd⟩ := I1.hok _ _ k4
    obtain ⟨u1, u2, rfl, ri, rj⟩ := vals2 r2
    obtain ⟨t1, rfl⟩ := ri
    obtain ⟨t2, rfl⟩ := rj
    rw [k2]
    refine ⟨_, .tuple (old _ _ ho) hcl hd (.cons (.int _ _) (.cons (.int _ _) .nil)), ?_⟩
    simp
  refine wpAny_bind (wpAny_holding (PySem.W.list_sort_data (s := { s with heap := h'.push (seqObj "list" acc.toList.toArray 0), toks := tk }) (enc := fun x : Trio => dPk (unpk x.1)) (R := fun v x => RelV x.2.1 v) hoL e1 e2 (PySem.W.AllAlike.of fun b b' => by simp [dPk, PySem.W.alike, PySem.W.alikeAll]) (PySem.W.Sortable.tuples fun b => ⟨_, _, rfl⟩) hz (fun b _ => ?_) fun out ho eo => ?_))
  · have : (dPk (unpk b.1)).depth = 1 := by
      unfold dPk
      simp [PyData.depth, PyData.depthAll]
    rw [Around.in1_units]
    omega
  · obtain ⟨e', he'⟩ := PyProof.Rows.sortedHeap_at (vs := acc.toList) (out := out.toArray) hoL
    have le : ∀ x y : Trio, PySem.W.dataLe false (fun x : Trio => dPk (unpk x.1)) x y = decide (leP (unpk x.1) (unpk y.1)) := fun x y => le_dPk (unpk x.1) (unpk y.1)
    have tr : ∀ x y z : Trio, PySem.W.dataLe false (fun x : Trio => dPk (unpk x.1)) x y = true → PySem.W.dataLe false (fun x : Trio => dPk (unpk x.1)) y z = true → PySem.W.dataLe false (fun x : Trio => dPk (unpk x.1)) x z = true := fun x y z => by
      rw [le, le, le, decide_eq_true_iff, decide_eq_true_iff, decide_eq_true_iff]
      unfold leP
      omega
    have to : ∀ x y : Trio, (PySem.W.dataLe false (fun x : Trio => dPk (unpk x.1)) x y || PySem.W.dataLe false (fun x : Trio => dPk (unpk x.1)) y x) = true := fun x y => by
      rw [le, le, Bool.or_eq_true, decide_eq_true_iff, decide_eq_true_iff]
      unfold leP
      omega
    have pm : (ys.mergeSort (PySem.W.dataLe false fun x : Trio => dPk (unpk x.1))).Perm ys := List.mergeSort_perm _ _
    have pw := List.pairwise_mergeSort tr to ys
    generalize ys.mergeSort (PySem.W.dataLe false fun x : Trio => dPk (unpk x.1)) = zs at pm pw eo
    have rvs : Vals (zs.map (·.2.1)) out := by
      clear pm pw he' e' ho
      induction eo with
      | nil => exact .nil
      | cons h _ ih => exact .cons h ih
    have kz : zs.map (·.1) = (zs.map fun x => unpk x.1).map pk := by
      rw [List.map_map]
      refine List.map_congr_left fun x hx => ?_
      obtain ⟨qq, k1, k2⟩ := key x (pm.mem_iff.mp hx)
      show x.1 = pk (unpk x.1)
      rw [k2, k1]
    have nz : NVs H ((zs.map fun x => unpk x.1).map pk) (zs.map (·.2.1)) := by
      rw [← kz]
      have all : ∀ x ∈ zs, NV H x.1 x.2.1 := fun x hx => (ksd x (pm.mem_iff.mp hx)).1
      clear pm pw he' e' ho rvs kz eo
      induction zs with
      | nil => exact .nil
      | cons x r ih => exact .cons (all x List.mem_cons_self) (ih fun y hy => all y (List.mem_cons_of_mem _ hy))
    have pk1 : (zs.map fun x => unpk x.1).Perm ks := by
      have e := pm.map fun x : Trio => unpk x.1
      have : ys.map (fun x : Trio => unpk x.1) = ks := by
        have e2 : ys.map (fun x : Trio => unpk x.1) = (ys.map (·.1)).map unpk := by rw [List.map_map]; rfl
        rw [e2, ck, List.map_map]
        conv => rhs; rw [← List.map_id ks]
        rfl
      rw [this] at e
      exact e
    have pw1 : (zs.map fun x => unpk x.1).Pairwise leP := by
      rw [List.pairwise_map]
      refine pw.imp fun {x y} h => ?_
      rw [le, decide_eq_true_iff] at h
      exact h
    have hlen : (zs.map (·.2.1)).length ≤ sizeLine := by
      rw [List.length_map, pm.length_eq]
      exact hz
    refine wpAny_pure ⟨_, rfl, .ref h'.objs.size, upd H h'.objs.size (.lst (zs.map (·.2.1))), I1.laid (t' := tk) (fun b u e => ?_) (Nat.le_refl _)
      (show ObjOk X.prog X.w _ _ _ (.lst (zs.map (·.2.1))) from ⟨hlen, out, e', rvs, he'⟩), rfl, q _ _ _ (I1.hok.fresh (Nat.le_refl _)) pk1 pw1 nz⟩
    have hb : b < h'.objs.size := Heap.lt_size e
    rw [PyProof.Rows.sortedHeap_old (Nat.ne_of_lt hb) (by rw [size_push']; exact Nat.lt_succ_of_lt hb)]
    exact Heap.get?_push_of_some _ e
end LU

namespace LH
open PySem PySem.Spec PyProof.Rows L2
/-! ### tuples of texts, dicts of texts at the top of a module -/
def ConstT (K : PySem.W.Frag) (a : Addr) (xs : List Str) : Prop := ∃ o its n, List.lookup a K = some o ∧ o.cls = Value.type "tuple" ∧ o.data = Data.seq its n ∧ its.size ≤ sizeLine ∧ Vals (xs.map V.str) its.toList
theorem ConstT.sq {K : PySem.W.Frag} {a : Addr} {xs : List Str} (h : ConstT K a xs) (H : Hp) : SqT K H a (xs.map V.str) := .inr h
def litS : List Value → List Str → Bool
  | [], [] => true
  | .str x _ :: r, y :: s => decide (x = y) && litS r s
  | _, _ => false
theorem litS_vals : ∀ {us : List Value} {xs : List Str}, litS us xs = true → Vals (xs.map V.str) us
  | [], [], _ => .nil
  | [], _ :: _, h => by cases h
  | u :: r, [], h => by cases u <;> cases h
  | u :: r, y :: s, h => by
    cases u with
    | str x t =>
      have h2 : (decide (x = y) && litS r s) = true := h
      rw [Bool.and_eq_true, decide_eq_true_iff] at h2
      obtain ⟨e, h3⟩ := h2
      exact .cons ⟨t, by rw [e]⟩ (litS_vals h3)
    | _ => cases h
theorem litS_len : ∀ {us : List Value} {xs : List Str}, litS us xs = true → us.length = xs.length
  | us, xs, h => by
    have := (litS_vals h).length
    rw [List.length_map] at this
    omega
theorem constT_mk {K : PySem.W.Frag} {a : Addr} {od : Option Addr} {its : Array Value} {n : Nat} {sl : Array (Option Value)} {xs : List Str} (h : K.lookup a = some ⟨.type "tuple", od, .seq its n, sl⟩) (v : litS its.toList xs = true) (few : xs.length ≤ 1000 := by decide) : ConstT K a xs := by
  refine ⟨_, its, n, h, rfl, rfl, ?_, litS_vals v⟩
  have := litS_len v
  rw [Array.length_toList] at this
  exact Nat.le_trans (show its.size ≤ 1000 by omega) (by decide)
def ConstD (K : PySem.W.Frag) (w : World) (a : Addr) (kvs : List (Str × Str)) : Prop := ∀ p ∈ kvs, KDct K w a p.1 (.str p.2)
theorem constD_mk {K : PySem.W.Frag} {w : World} {a : Addr} {ks : List Str} {kvs : List (Str × Str)} (h : He.dicW K a = some (He.keysIn w.params ks)) (g : ∀ p ∈ kvs, ∃ u, PySem.W.nsIn K a p.1 = some (some u) ∧ ∃ t, u = Value.str p.2 t) : ConstD K w a kvs := fun p hp => by
  obtain ⟨es, n, kd⟩ := He.dicW_ok h
  obtain ⟨u, e, t, rfl⟩ := g p hp
  exact ⟨es, n, _, kd.at_, kd.lit, e, t, rfl⟩
end LH

namespace LH
open PySem PySem.Spec PyProof.Rows L2
def topS (i : Nat) : Stmt := PySem.Challenge.pw_likehands_k16_whole_one_text_one_world.main.body.getD i (.Pass ⟨0, 0, 0, 0⟩)
abbrev s_built : Stmt := topS 5
abbrev N_built : List Str := ["letters", "start", "follow", "is_end", "keys", "table", "ended", "key"]
theorem sc_built : FnScope N_built ["letters", "start", "follow", "is_end"] (defScope s_built) := ⟨rfl, rfl, rfl, by decide +kernel, rfl, by decide +kernel, by decide +kernel⟩
abbrev s_walked : Stmt := topS 6
abbrev N_walked : List Str := ["start", "follow", "numbers", "keys", "table", "row", "behind", "key"]
theorem sc_walked : FnScope N_walked ["start", "follow"] (defScope s_walked) := ⟨rfl, rfl, rfl, by decide +kernel, rfl, by decide +kernel, by decide +kernel⟩
abbrev s_parted : Stmt := topS 7
abbrev N_parted : List Str := ["table", "ended", "groups", "homes", "number", "members", "state", "backs", "at", "targets", "back", "hits", "home", "row"]
theorem sc_parted : FnScope N_parted ["table", "ended"] (defScope s_parted) := ⟨rfl, rfl, rfl, by decide +kernel, rfl, by decide +kernel, by decide +kernel⟩
abbrev s_first_groups : Stmt := topS 8
abbrev N_first_groups : List Str := ["ended", "stops", "others", "state", "stop", "group"]
theorem sc_first_groups : FnScope N_first_groups ["ended"] (defScope s_first_groups) := ⟨rfl, rfl, rfl, by decide +kernel, rfl, by decide +kernel, by decide +kernel⟩
abbrev s_ways_back : Stmt := topS 9
abbrev N_ways_back : List Str := ["table", "backs", "state", "row", "column", "target"]
theorem sc_ways_back : FnScope N_ways_back ["table"] (defScope s_ways_back) := ⟨rfl, rfl, rfl, by decide +kernel, rfl, by decide +kernel, by decide +kernel⟩
abbrev s_hits_of : Stmt := topS 10
abbrev N_hits_of : List Str := ["back", "targets", "homes", "hits", "target", "state", "home"]
theorem sc_hits_of : FnScope N_hits_of ["back", "targets", "homes"] (defScope s_hits_of) := ⟨rfl, rfl, rfl, by decide +kernel, rfl, by decide +kernel, by decide +kernel⟩
abbrev s_split_group : Stmt := topS 11
abbrev N_split_group : List Str := ["groups", "homes", "home", "hit", "members", "moved", "state", "kept"]
theorem sc_split_group : FnScope N_split_group ["groups", "homes", "home", "hit"] (defScope s_split_group) := ⟨rfl, rfl, rfl, by decide +kernel, rfl, by decide +kernel, by decide +kernel⟩
abbrev s_merged : Stmt := topS 12
abbrev N_merged : List Str := ["letters", "table", "ended", "homes", "numbers", "heads", "state", "home", "rows", "ends", "head", "target", "number"]
theorem sc_merged : FnScope N_merged ["letters", "table", "ended", "homes"] (defScope s_merged) := ⟨rfl, rfl, rfl, by decide +kernel, rfl, by decide +kernel, by decide +kernel⟩
abbrev s_is_letters : Stmt := topS 15
abbrev N_is_letters : List Str := ["thing", "sign"]
theorem sc_is_letters : FnScope N_is_letters ["thing"] (defScope s_is_letters) := ⟨rfl, rfl, rfl, by decide +kernel, rfl, by decide +kernel, by decide +kernel⟩
abbrev s_rises : Stmt := topS 16
abbrev N_rises : List Str := ["row", "at"]
theorem sc_rises : FnScope N_rises ["row"] (defScope s_rises) := ⟨rfl, rfl, rfl, by decide +kernel, rfl, by decide +kernel, by decide +kernel⟩
abbrev s_has : Stmt := topS 17
abbrev N_has : List Str := ["machine", "word", "letters", "table", "ends", "state", "letter", "column"]
theorem sc_has : FnScope N_has ["machine", "word"] (defScope s_has) := ⟨rfl, rfl, rfl, by decide +kernel, rfl, by decide +kernel, by decide +kernel⟩
abbrev s_machine_of : Stmt := topS 20
abbrev N_machine_of : List Str := ["letters", "pattern", "places", "starts", "follow", "is_end"]
theorem sc_machine_of : FnScope N_machine_of ["letters", "pattern"] (defScope s_machine_of) := ⟨rfl, rfl, rfl, by decide +kernel, rfl, by decide +kernel, by decide +kernel⟩
abbrev s_branches_of : Stmt := topS 21
abbrev N_branches_of : List Str := ["letters", "pattern", "branches", "branch", "items"]
theorem sc_branches_of : FnScope N_branches_of ["letters", "pattern"] (defScope s_branches_of) := ⟨rfl, rfl, rfl, by decide +kernel, rfl, by decide +kernel, by decide +kernel⟩
abbrev s_items_of : Stmt := topS 22
abbrev N_items_of : List Str := ["letters", "branch", "items", "at", "signs", "mark"]
theorem sc_items_of : FnScope N_items_of ["letters", "branch"] (defScope s_items_of) := ⟨rfl, rfl, rfl, by decide +kernel, rfl, by decide +kernel, by decide +kernel⟩
abbrev s_choice_at : Stmt := topS 23
abbrev N_choice_at : List Str := ["letters", "branch", "at", "sign"]
theorem sc_choice_at : FnScope N_choice_at ["letters", "branch", "at"] (defScope s_choice_at) := ⟨rfl, rfl, rfl, by decide +kernel, rfl, by decide +kernel, by decide +kernel⟩
abbrev s_bracket_at : Stmt := topS 24
abbrev N_bracket_at : List Str := ["letters", "branch", "at", "close", "signs", "sign"]
theorem sc_bracket_at : FnScope N_bracket_at ["letters", "branch", "at"] (defScope s_bracket_at) := ⟨rfl, rfl, rfl, by decide +kernel, rfl, by decide +kernel, by decide +kernel⟩
abbrev s_mark_at : Stmt := topS 25
abbrev N_mark_at : List Str := ["branch", "at"]
theorem sc_mark_at : FnScope N_mark_at ["branch", "at"] (defScope s_mark_at) := ⟨rfl, rfl, rfl, by decide +kernel, rfl, by decide +kernel, by decide +kernel⟩
abbrev s_places_of : Stmt := topS 26
abbrev N_places_of : List Str := ["branches", "places", "starts", "items", "signs", "mark"]
theorem sc_places_of : FnScope N_places_of ["branches"] (defScope s_places_of) := ⟨rfl, rfl, rfl, by decide +kernel, rfl, by decide +kernel, by decide +kernel⟩
abbrev s_read : Stmt := topS 27
abbrev N_read : List Str := ["places", "held", "letter", "reached", "at", "signs", "stays"]
theorem sc_read : FnScope N_read ["places", "held", "letter"] (defScope s_read) := ⟨rfl, rfl, rfl, by decide +kernel, rfl, by decide +kernel, by decide +kernel⟩
abbrev s_let_on : Stmt := topS 28
abbrev N_let_on : List Str := ["places", "numbers", "found", "number", "at"]
theorem sc_let_on : FnScope N_let_on ["places", "numbers"] (defScope s_let_on) := ⟨rfl, rfl, rfl, by decide +kernel, rfl, by decide +kernel, by decide +kernel⟩
abbrev s_is_world : Stmt := topS 34
abbrev N_is_world : List Str := ["thing", "letters", "shape", "rules", "begin", "bad", "rule"]
theorem sc_is_world : FnScope N_is_world ["thing"] (defScope s_is_world) := ⟨rfl, rfl, rfl, by decide +kernel, rfl, by decide +kernel, by decide +kernel⟩
abbrev s_is_one_of : Stmt := topS 35
abbrev N_is_one_of : List Str := ["thing", "texts"]
theorem sc_is_one_of : FnScope N_is_one_of ["thing", "texts"] (defScope s_is_one_of) := ⟨rfl, rfl, rfl, by decide +kernel, rfl, by decide +kernel, by decide +kernel⟩
abbrev s_is_of_hands : Stmt := topS 36
abbrev N_is_of_hands : List Str := ["letters", "thing", "machine"]
theorem sc_is_of_hands : FnScope N_is_of_hands ["letters", "thing"] (defScope s_is_of_hands) := ⟨rfl, rfl, rfl, by decide +kernel, rfl, by decide +kernel, by decide +kernel⟩
abbrev s_is_rule : Stmt := topS 37
abbrev N_is_rule : List Str := ["letters", "shape", "thing"]
theorem sc_is_rule : FnScope N_is_rule ["letters", "shape", "thing"] (defScope s_is_rule) := ⟨rfl, rfl, rfl, by decide +kernel, rfl, by decide +kernel, by decide +kernel⟩
abbrev s_is_letter : Stmt := topS 38
abbrev N_is_letter : List Str := ["letters", "thing"]
theorem sc_is_letter : FnScope N_is_letter ["letters", "thing"] (defScope s_is_letter) := ⟨rfl, rfl, rfl, by decide +kernel, rfl, by decide +kernel, by decide +kernel⟩
abbrev s_is_guard : Stmt := topS 39
abbrev N_is_guard : List Str := ["letters", "shape", "thing", "how", "where", "some", "places"]
theorem sc_is_guard : FnScope N_is_guard ["letters", "shape", "thing"] (defScope s_is_guard) := ⟨rfl, rfl, rfl, by decide +kernel, rfl, by decide +kernel, by decide +kernel⟩
abbrev s_is_image : Stmt := topS 40
abbrev N_is_image : List Str := ["letters", "thing"]
theorem sc_is_image : FnScope N_is_image ["letters", "thing"] (defScope s_is_image) := ⟨rfl, rfl, rfl, by decide +kernel, rfl, by decide +kernel, by decide +kernel⟩
abbrev s_is_text_of : Stmt := topS 41
abbrev N_is_text_of : List Str := ["letters", "thing", "sign"]
theorem sc_is_text_of : FnScope N_is_text_of ["letters", "thing"] (defScope s_is_text_of) := ⟨rfl, rfl, rfl, by decide +kernel, rfl, by decide +kernel, by decide +kernel⟩
abbrev s_show_world : Stmt := topS 42
abbrev N_show_world : List Str := ["world", "letters", "shape", "rules", "begin", "bad", "lines", "rule", "line"]
theorem sc_show_world : FnScope N_show_world ["world"] (defScope s_show_world) := ⟨rfl, rfl, rfl, by decide +kernel, rfl, by decide +kernel, by decide +kernel⟩
abbrev s_show_rule : Stmt := topS 43
abbrev N_show_rule : List Str := ["rule", "kind", "x", "y", "u", "v", "more", "how", "where", "some"]
theorem sc_show_rule : FnScope N_show_rule ["rule"] (defScope s_show_rule) := ⟨rfl, rfl, rfl, by decide +kernel, rfl, by decide +kernel, by decide +kernel⟩
abbrev s_read_world : Stmt := topS 44
abbrev N_read_world : List Str := ["text", "lines", "rules", "world", "line"]
theorem sc_read_world : FnScope N_read_world ["text"] (defScope s_read_world) := ⟨rfl, rfl, rfl, by decide +kernel, rfl, by decide +kernel, by decide +kernel⟩
abbrev s_behind_blank : Stmt := topS 45
abbrev N_behind_blank : List Str := ["line"]
theorem sc_behind_blank : FnScope N_behind_blank ["line"] (defScope s_behind_blank) := ⟨rfl, rfl, rfl, by decide +kernel, rfl, by decide +kernel, by decide +kernel⟩
abbrev s_read_rule : Stmt := topS 46
abbrev N_read_rule : List Str := ["line", "parts", "x", "y"]
theorem sc_read_rule : FnScope N_read_rule ["line"] (defScope s_read_rule) := ⟨rfl, rfl, rfl, by decide +kernel, rfl, by decide +kernel, by decide +kernel⟩
abbrev s_law_well : Stmt := topS 48
abbrev N_law_well : List Str := ["cell"]
theorem sc_law_well : FnScope N_law_well ["cell"] (defScope s_law_well) := ⟨rfl, rfl, rfl, by decide +kernel, rfl, by decide +kernel, by decide +kernel⟩
abbrev s_law_draw : Stmt := topS 49
abbrev N_law_draw : List Str := ["well", "many", "got", "stirred"]
theorem sc_law_draw : FnScope N_law_draw ["well", "many"] (defScope s_law_draw) := ⟨rfl, rfl, rfl, by decide +kernel, rfl, by decide +kernel, by decide +kernel⟩
abbrev s_law_same : Stmt := topS 50
abbrev N_law_same : List Str := ["got", "due", "one", "other"]
theorem sc_law_same : FnScope N_law_same ["got", "due"] (defScope s_law_same) := ⟨rfl, rfl, rfl, by decide +kernel, rfl, by decide +kernel, by decide +kernel⟩
abbrev s_law_letters : Stmt := topS 51
abbrev N_law_letters : List Str := ["well", "signs", "k"]
theorem sc_law_letters : FnScope N_law_letters ["well"] (defScope s_law_letters) := ⟨rfl, rfl, rfl, by decide +kernel, rfl, by decide +kernel, by decide +kernel⟩
abbrev s_law_one_of : Stmt := topS 52
abbrev N_law_one_of : List Str := ["well", "letters"]
theorem sc_law_one_of : FnScope N_law_one_of ["well", "letters"] (defScope s_law_one_of) := ⟨rfl, rfl, rfl, by decide +kernel, rfl, by decide +kernel, by decide +kernel⟩
abbrev s_law_some : Stmt := topS 53
abbrev N_law_some : List Str := ["well", "letters", "found", "sign"]
theorem sc_law_some : FnScope N_law_some ["well", "letters"] (defScope s_law_some) := ⟨rfl, rfl, rfl, by decide +kernel, rfl, by decide +kernel, by decide +kernel⟩
abbrev s_law_rule : Stmt := topS 54
abbrev N_law_rule : List Str := ["well", "letters", "shape", "kind", "x", "y", "where", "guard", "letter"]
theorem sc_law_rule : FnScope N_law_rule ["well", "letters", "shape", "kind"] (defScope s_law_rule) := ⟨rfl, rfl, rfl, by decide +kernel, rfl, by decide +kernel, by decide +kernel⟩
abbrev s_law_item : Stmt := topS 55
abbrev N_law_item : List Str := ["well", "letters", "one"]
theorem sc_law_item : FnScope N_law_item ["well", "letters"] (defScope s_law_item) := ⟨rfl, rfl, rfl, by decide +kernel, rfl, by decide +kernel, by decide +kernel⟩
abbrev s_law_pattern : Stmt := topS 56
abbrev N_law_pattern : List Str := ["well", "letters", "branches", "left", "k", "items", "j", "text"]
theorem sc_law_pattern : FnScope N_law_pattern ["well", "letters"] (defScope s_law_pattern) := ⟨rfl, rfl, rfl, by decide +kernel, rfl, by decide +kernel, by decide +kernel⟩
abbrev s_law_world : Stmt := topS 57
abbrev N_law_world : List Str := ["well", "letters", "shape", "many", "rules", "k"]
theorem sc_law_world : FnScope N_law_world ["well"] (defScope s_law_world) := ⟨rfl, rfl, rfl, by decide +kernel, rfl, by decide +kernel, by decide +kernel⟩
abbrev s_law_every : Stmt := topS 58
abbrev N_law_every : List Str := ["found"]
theorem sc_law_every : FnScope N_law_every [] (defScope s_law_every) := ⟨rfl, rfl, rfl, by decide +kernel, rfl, by decide +kernel, by decide +kernel⟩
abbrev s_law_bent : Stmt := topS 59
abbrev N_law_bent : List Str := ["well", "text", "at", "signs", "sign", "lines", "one", "other", "kind", "some"]
theorem sc_law_bent : FnScope N_law_bent ["well", "text"] (defScope s_law_bent) := ⟨rfl, rfl, rfl, by decide +kernel, rfl, by decide +kernel, by decide +kernel⟩
abbrev s_law_shape : Stmt := topS 60
abbrev N_law_shape : List Str := ["world", "shape", "letters", "old", "rules", "begin", "bad", "found", "rule"]
theorem sc_law_shape : FnScope N_law_shape ["world", "shape"] (defScope s_law_shape) := ⟨rfl, rfl, rfl, by decide +kernel, rfl, by decide +kernel, by decide +kernel⟩
abbrev s_law_near : Stmt := topS 61
abbrev N_law_near : List Str := ["well", "world", "letters", "shape", "rules", "begin", "bad", "way", "at", "rule"]
theorem sc_law_near : FnScope N_law_near ["well", "world"] (defScope s_law_near) := ⟨rfl, rfl, rfl, by decide +kernel, rfl, by decide +kernel, by decide +kernel⟩
abbrev s_law_back : Stmt := topS 62
abbrev N_law_back : List Str := ["text", "world"]
theorem sc_law_back : FnScope N_law_back ["text"] (defScope s_law_back) := ⟨rfl, rfl, rfl, by decide +kernel, rfl, by decide +kernel, by decide +kernel⟩
abbrev s_law : Stmt := topS 63
abbrev N_law : List Str := ["script", "cell", "well", "world", "near", "one", "found", "text", "told"]
theorem sc_law : FnScope N_law ["script"] (defScope s_law) := ⟨rfl, rfl, rfl, by decide +kernel, rfl, by decide +kernel, by decide +kernel⟩
structure TX (K : PySem.W.Frag) (mg : Str → Option Value) where
  a_built : Addr
  fd_built : FuncData
  F_built : Fun K "built" "built" s_built a_built fd_built
  b_built : Binds K fd_built ["letters", "start", "follow", "is_end"] []
  g_built : mg "built" = some (.ref a_built)
  a_walked : Addr
  fd_walked : FuncData
  F_walked : Fun K "walked" "walked" s_walked a_walked fd_walked
  b_walked : Binds K fd_walked ["start", "follow"] []
  g_walked : mg "walked" = some (.ref a_walked)
  a_parted : Addr
  fd_parted : FuncData
  F_parted : Fun K "parted" "parted" s_parted a_parted fd_parted
  b_parted : Binds K fd_parted ["table", "ended"] []
  g_parted : mg "parted" = some (.ref a_parted)
  a_first_groups : Addr
  fd_first_groups : FuncData
  F_first_groups : Fun K "first_groups" "first_groups" s_first_groups a_first_groups fd_first_groups
  b_first_groups : Binds K fd_first_groups ["ended"] []
  g_first_groups : mg "first_groups" = some (.ref a_first_groups)
  a_ways_back : Addr
  fd_ways_back : FuncData
  F_ways_back : Fun K "ways_back" "ways_back" s_ways_back a_ways_back fd_ways_back
  b_ways_back : Binds K fd_ways_back ["table"] []
  g_ways_back : mg "ways_back" = some (.ref a_ways_back)
  a_hits_of : Addr
  fd_hits_of : FuncData
  F_hits_of : Fun K "hits_of" "hits_of" s_hits_of a_hits_of fd_hits_of
  b_hits_of : Binds K fd_hits_of ["back", "targets", "homes"] []
  g_hits_of : mg "hits_of" = some (.ref a_hits_of)
  a_split_group : Addr
  fd_split_group : FuncData
  F_split_group : Fun K "split_group" "split_group" s_split_group a_split_group fd_split_group
  b_split_group : Binds K fd_split_group ["groups", "homes", "home", "hit"] []
  g_split_group : mg "split_group" = some (.ref a_split_group)
  a_merged : Addr
  fd_merged : FuncData
  F_merged : Fun K "merged" "merged" s_merged a_merged fd_merged
  b_merged : Binds K fd_merged ["letters", "table", "ended", "homes"] []
  g_merged : mg "merged" = some (.ref a_merged)
  a_is_letters : Addr
  fd_is_letters : FuncData
  F_is_letters : Fun K "is_letters" "is_letters" s_is_letters a_is_letters fd_is_letters
  b_is_letters : Binds K fd_is_letters ["thing"] []
  g_is_letters : mg "is_letters" = some (.ref a_is_letters)
  a_rises : Addr
  fd_rises : FuncData
  F_rises : Fun K "rises" "rises" s_rises a_rises fd_rises
  b_rises : Binds K fd_rises ["row"] []
  g_rises : mg "rises" = some (.ref a_rises)
  a_has : Addr
  fd_has : FuncData
  F_has : Fun K "has" "has" s_has a_has fd_has
  b_has : Binds K fd_has ["machine", "word"] []
  g_has : mg "has" = some (.ref a_has)
  a_machine_of : Addr
  fd_machine_of : FuncData
  F_machine_of : Fun K "machine_of" "machine_of" s_machine_of a_machine_of fd_machine_of
  b_machine_of : Binds K fd_machine_of ["letters", "pattern"] []
  g_machine_of : mg "machine_of" = some (.ref a_machine_of)
  a_branches_of : Addr
  fd_branches_of : FuncData
  F_branches_of : Fun K "branches_of" "branches_of" s_branches_of a_branches_of fd_branches_of
  b_branches_of : Binds K fd_branches_of ["letters", "pattern"] []
  g_branches_of : mg "branches_of" = some (.ref a_branches_of)
  a_items_of : Addr
  fd_items_of : FuncData
  F_items_of : Fun K "items_of" "items_of" s_items_of a_items_of fd_items_of
  b_items_of : Binds K fd_items_of ["letters", "branch"] []
  g_items_of : mg "items_of" = some (.ref a_items_of)
  a_choice_at : Addr
  fd_choice_at : FuncData
  F_choice_at : Fun K "choice_at" "choice_at" s_choice_at a_choice_at fd_choice_at
  b_choice_at : Binds K fd_choice_at ["letters", "branch", "at"] []
  g_choice_at : mg "choice_at" = some (.ref a_choice_at)
  a_bracket_at : Addr
  fd_bracket_at : FuncData
  F_bracket_at : Fun K "bracket_at" "bracket_at" s_bracket_at a_bracket_at fd_bracket_at
  b_bracket_at : Binds K fd_bracket_at ["letters", "branch", "at"] []
  g_bracket_at : mg "bracket_at" = some (.ref a_bracket_at)
  a_mark_at : Addr
  fd_mark_at : FuncData
  F_mark_at : Fun K "mark_at" "mark_at" s_mark_at a_mark_at fd_mark_at
  b_mark_at : Binds K fd_mark_at ["branch", "at"] []
  g_mark_at : mg "mark_at" = some (.ref a_mark_at)
  a_places_of : Addr
  fd_places_of : FuncData
  F_places_of : Fun K "places_of" "places_of" s_places_of a_places_of fd_places_of
  b_places_of : Binds K fd_places_of ["branches"] []
  g_places_of : mg "places_of" = some (.ref a_places_of)
  a_read : Addr
  fd_read : FuncData
  F_read : Fun K "read" "read" s_read a_read fd_read
  b_read : Binds K fd_read ["places", "held", "letter"] []
  g_read : mg "read" = some (.ref a_read)
  a_let_on : Addr
  fd_let_on : FuncData
  F_let_on : Fun K "let_on" "let_on" s_let_on a_let_on fd_let_on
  b_let_on : Binds K fd_let_on ["places", "numbers"] []
  g_let_on : mg "let_on" = some (.ref a_let_on)
  a_is_world : Addr
  fd_is_world : FuncData
  F_is_world : Fun K "is_world" "is_world" s_is_world a_is_world fd_is_world
  b_is_world : Binds K fd_is_world ["thing"] []
  g_is_world : mg "is_world" = some (.ref a_is_world)
  a_is_one_of : Addr
  fd_is_one_of : FuncData
  F_is_one_of : Fun K "is_one_of" "is_one_of" s_is_one_of a_is_one_of fd_is_one_of
  b_is_one_of : Binds K fd_is_one_of ["thing", "texts"] []
  g_is_one_of : mg "is_one_of" = some (.ref a_is_one_of)
  a_is_of_hands : Addr
  fd_is_of_hands : FuncData
  F_is_of_hands : Fun K "is_of_hands" "is_of_hands" s_is_of_hands a_is_of_hands fd_is_of_hands
  b_is_of_hands : Binds K fd_is_of_hands ["letters", "thing"] []
  g_is_of_hands : mg "is_of_hands" = some (.ref a_is_of_hands)
  a_is_rule : Addr
  fd_is_rule : FuncData
  F_is_rule : Fun K "is_rule" "is_rule" s_is_rule a_is_rule fd_is_rule
  b_is_rule : Binds K fd_is_rule ["letters", "shape", "thing"] []
  g_is_rule : mg "is_rule" = some (.ref a_is_rule)
  a_is_letter : Addr
  fd_is_letter : FuncData
  F_is_letter : Fun K "is_letter" "is_letter" s_is_letter a_is_letter fd_is_letter
  b_is_letter : Binds K fd_is_letter ["letters", "thing"] []
  g_is_letter : mg "is_letter" = some (.ref a_is_letter)
  a_is_guard : Addr
  fd_is_guard : FuncData
  F_is_guard : Fun K "is_guard" "is_guard" s_is_guard a_is_guard fd_is_guard
  b_is_guard : Binds K fd_is_guard ["letters", "shape", "thing"] []
  g_is_guard : mg "is_guard" = some (.ref a_is_guard)
  a_is_image : Addr
  fd_is_image : FuncData
  F_is_image : Fun K "is_image" "is_image" s_is_image a_is_image fd_is_image
  b_is_image : Binds K fd_is_image ["letters", "thing"] []
  g_is_image : mg "is_image" = some (.ref a_is_image)
  a_is_text_of : Addr
  fd_is_text_of : FuncData
  F_is_text_of : Fun K "is_text_of" "is_text_of" s_is_text_of a_is_text_of fd_is_text_of
  b_is_text_of : Binds K fd_is_text_of ["letters", "thing"] []
  g_is_text_of : mg "is_text_of" = some (.ref a_is_text_of)
  a_show_world : Addr
  fd_show_world : FuncData
  F_show_world : Fun K "show_world" "show_world" s_show_world a_show_world fd_show_world
  b_show_world : Binds K fd_show_world ["world"] []
  g_show_world : mg "show_world" = some (.ref a_show_world)
  a_show_rule : Addr
  fd_show_rule : FuncData
  F_show_rule : Fun K "show_rule" "show_rule" s_show_rule a_show_rule fd_show_rule
  b_show_rule : Binds K fd_show_rule ["rule"] []
  g_show_rule : mg "show_rule" = some (.ref a_show_rule)
  a_read_world : Addr
  fd_read_world : FuncData
  F_read_world : Fun K "read_world" "read_world" s_read_world a_read_world fd_read_world
  b_read_world : Binds K fd_read_world ["text"] []
  g_read_world : mg "read_world" = some (.ref a_read_world)
  a_behind_blank : Addr
  fd_behind_blank : FuncData
  F_behind_blank : Fun K "behind_blank" "behind_blank" s_behind_blank a_behind_blank fd_behind_blank
  b_behind_blank : Binds K fd_behind_blank ["line"] []
  g_behind_blank : mg "behind_blank" = some (.ref a_behind_blank)
  a_read_rule : Addr
  fd_read_rule : FuncData
  F_read_rule : Fun K "read_rule" "read_rule" s_read_rule a_read_rule fd_read_rule
  b_read_rule : Binds K fd_read_rule ["line"] []
  g_read_rule : mg "read_rule" = some (.ref a_read_rule)
  a_law_well : Addr
  fd_law_well : FuncData
  F_law_well : Fun K "_law_well" "_law_well" s_law_well a_law_well fd_law_well
  b_law_well : Binds K fd_law_well ["cell"] []
  g_law_well : mg "_law_well" = some (.ref a_law_well)
  a_law_draw : Addr
  fd_law_draw : FuncData
  F_law_draw : Fun K "_law_draw" "_law_draw" s_law_draw a_law_draw fd_law_draw
  b_law_draw : Binds K fd_law_draw ["well", "many"] []
  g_law_draw : mg "_law_draw" = some (.ref a_law_draw)
  a_law_same : Addr
  fd_law_same : FuncData
  F_law_same : Fun K "_law_same" "_law_same" s_law_same a_law_same fd_law_same
  b_law_same : Binds K fd_law_same ["got", "due"] []
  g_law_same : mg "_law_same" = some (.ref a_law_same)
  a_law_letters : Addr
  fd_law_letters : FuncData
  F_law_letters : Fun K "_law_letters" "_law_letters" s_law_letters a_law_letters fd_law_letters
  b_law_letters : Binds K fd_law_letters ["well"] []
  g_law_letters : mg "_law_letters" = some (.ref a_law_letters)
  a_law_one_of : Addr
  fd_law_one_of : FuncData
  F_law_one_of : Fun K "_law_one_of" "_law_one_of" s_law_one_of a_law_one_of fd_law_one_of
  b_law_one_of : Binds K fd_law_one_of ["well", "letters"] []
  g_law_one_of : mg "_law_one_of" = some (.ref a_law_one_of)
  a_law_some : Addr
  fd_law_some : FuncData
  F_law_some : Fun K "_law_some" "_law_some" s_law_some a_law_some fd_law_some
  b_law_some : Binds K fd_law_some ["well", "letters"] []
  g_law_some : mg "_law_some" = some (.ref a_law_some)
  a_law_rule : Addr
  fd_law_rule : FuncData
  F_law_rule : Fun K "_law_rule" "_law_rule" s_law_rule a_law_rule fd_law_rule
  b_law_rule : Binds K fd_law_rule ["well", "letters", "shape", "kind"] []
  g_law_rule : mg "_law_rule" = some (.ref a_law_rule)
  a_law_item : Addr
  fd_law_item : FuncData
  F_law_item : Fun K "_law_item" "_law_item" s_law_item a_law_item fd_law_item
  b_law_item : Binds K fd_law_item ["well", "letters"] []
  g_law_item : mg "_law_item" = some (.ref a_law_item)
  a_law_pattern : Addr
  fd_law_pattern : FuncData
  F_law_pattern : Fun K "_law_pattern" "_law_pattern" s_law_pattern a_law_pattern fd_law_pattern
  b_law_pattern : Binds K fd_law_pattern ["well", "letters"] []
  g_law_pattern : mg "_law_pattern" = some (.ref a_law_pattern)
  a_law_world : Addr
  fd_law_world : FuncData
  F_law_world : Fun K "_law_world" "_law_world" s_law_world a_law_world fd_law_world
  b_law_world : Binds K fd_law_world ["well"] []
  g_law_world : mg "_law_world" = some (.ref a_law_world)
  a_law_every : Addr
  fd_law_every : FuncData
  F_law_every : Fun K "_law_every" "_law_every" s_law_every a_law_every fd_law_every
  b_law_every : Binds K fd_law_every [] []
  g_law_every : mg "_law_every" = some (.ref a_law_every)
  a_law_bent : Addr
  fd_law_bent : FuncData
  F_law_bent : Fun K "_law_bent" "_law_bent" s_law_bent a_law_bent fd_law_bent
  b_law_bent : Binds K fd_law_bent ["well", "text"] []
  g_law_bent : mg "_law_bent" = some (.ref a_law_bent)
  a_law_shape : Addr
  fd_law_shape : FuncData
  F_law_shape : Fun K "_law_shape" "_law_shape" s_law_shape a_law_shape fd_law_shape
  b_law_shape : Binds K fd_law_shape ["world", "shape"] []
  g_law_shape : mg "_law_shape" = some (.ref a_law_shape)
  a_law_near : Addr
  fd_law_near : FuncData
  F_law_near : Fun K "_law_near" "_law_near" s_law_near a_law_near fd_law_near
  b_law_near : Binds K fd_law_near ["well", "world"] []
  g_law_near : mg "_law_near" = some (.ref a_law_near)
  a_law_back : Addr
  fd_law_back : FuncData
  F_law_back : Fun K "_law_back" "_law_back" s_law_back a_law_back fd_law_back
  b_law_back : Binds K fd_law_back ["text"] []
  g_law_back : mg "_law_back" = some (.ref a_law_back)
  m_all : mg "all" = none
  m_any : mg "any" = none
  m_bool : mg "bool" = none
  m_enumerate : mg "enumerate" = none
  m_int : mg "int" = none
  m_isinstance : mg "isinstance" = none
  m_len : mg "len" = none
  m_list : mg "list" = none
  m_max : mg "max" = none
  m_min : mg "min" = none
  m_range : mg "range" = none
  m_set : mg "set" = none
  m_sorted : mg "sorted" = none
  m_str : mg "str" = none
  m_sum : mg "sum" = none
  m_tuple : mg "tuple" = none
  m_zip : mg "zip" = none
  t_MOST_ITEMS : Tok
  c_MOST_ITEMS : mg "MOST_ITEMS" = some (.int 8 t_MOST_ITEMS)
  t_MOST_LETTERS : Tok
  c_MOST_LETTERS : mg "MOST_LETTERS" = some (.int 5 t_MOST_LETTERS)
  a_HOWS : Addr
  c_HOWS : mg "HOWS" = some (.ref a_HOWS)
  k_HOWS : ConstT K a_HOWS ["all", "some"]
  a_RING_PLACES : Addr
  c_RING_PLACES : mg "RING_PLACES" = some (.ref a_RING_PLACES)
  k_RING_PLACES : ConstT K a_RING_PLACES ["others"]
  a_ROW_PLACES : Addr
  c_ROW_PLACES : mg "ROW_PLACES" = some (.ref a_ROW_PLACES)
  k_ROW_PLACES : ConstT K a_ROW_PLACES ["left", "right", "others"]
  a_SHAPES : Addr
  c_SHAPES : mg "SHAPES" = some (.ref a_SHAPES)
  k_SHAPES : ConstT K a_SHAPES ["row", "ring"]
  A_NoPattern : Addr
  x_NoPattern : mg "NoPattern" = some (.ref A_NoPattern)
  A_NoWorld : Addr
  x_NoWorld : mg "NoWorld" = some (.ref A_NoWorld)
  e_NoPattern : PySem.W.excIn K A_NoPattern [.type "ValueError", .type "Exception", .type "BaseException", .type "object"] "ValueError.__new__" = true
  k_NoPattern : PySem.W.keepIn K (.ref A_NoPattern) = true
  b_NoPattern : PySem.W.subIn K (.ref A_NoPattern) (.type "BaseException") = some true
  t_NoPattern : PySem.W.typeIn K (.ref A_NoPattern) = some (.type "type")
  h1_NoPattern : PySem.W.findIn K (.ref A_NoPattern) "__getattribute__" = some (some (.builtin "BaseException.__getattribute__"))
  h2_NoPattern : PySem.W.findIn K (.ref A_NoPattern) "__getattr__" = some none
  h4_NoPattern : PySem.W.hasDictIn K A_NoPattern = true
  h5_NoPattern : PySem.W.findIn K (.ref A_NoPattern) "__class__" = some (some (.builtin "object.__class__"))
  h6_NoPattern : PySem.W.specialIn K (.builtin "object.__class__") "__get__" = some (some (.builtin "getset_descriptor.__get__"))
  h7_NoPattern : PySem.W.takesIn K (.builtin "object.__class__") = some true
  h8_NoPattern : PySem.W.mroIn K A_NoPattern (.type "object") = some true
  c1_NoPattern_NoPattern : PySem.W.subIn K (.ref A_NoPattern) (.type "BaseException") = some true
  c2_NoPattern_NoPattern : PySem.W.hasDictIn K A_NoPattern = true
  c3_NoPattern_NoPattern : PySem.W.typeIn K (.ref A_NoPattern) = some (.type "type")
  c4_NoPattern_NoPattern : PySem.W.subIn K (.ref A_NoPattern) (.ref A_NoPattern) = some true
  q_NoPattern_V : PySem.W.kitOne K (.ref A_NoPattern) (.type "ValueError") = some true
  e_NoWorld : PySem.W.excIn K A_NoWorld [.type "ValueError", .type "Exception", .type "BaseException", .type "object"] "ValueError.__new__" = true
  k_NoWorld : PySem.W.keepIn K (.ref A_NoWorld) = true
  b_NoWorld : PySem.W.subIn K (.ref A_NoWorld) (.type "BaseException") = some true
  t_NoWorld : PySem.W.typeIn K (.ref A_NoWorld) = some (.type "type")
  h1_NoWorld : PySem.W.findIn K (.ref A_NoWorld) "__getattribute__" = some (some (.builtin "BaseException.__getattribute__"))
  h2_NoWorld : PySem.W.findIn K (.ref A_NoWorld) "__getattr__" = some none
  h4_NoWorld : PySem.W.hasDictIn K A_NoWorld = true
  h5_NoWorld : PySem.W.findIn K (.ref A_NoWorld) "__class__" = some (some (.builtin "object.__class__"))
  h6_NoWorld : PySem.W.specialIn K (.builtin "object.__class__") "__get__" = some (some (.builtin "getset_descriptor.__get__"))
  h7_NoWorld : PySem.W.takesIn K (.builtin "object.__class__") = some true
  h8_NoWorld : PySem.W.mroIn K A_NoWorld (.type "object") = some true
  c1_NoWorld_NoWorld : PySem.W.subIn K (.ref A_NoWorld) (.type "BaseException") = some true
  c2_NoWorld_NoWorld : PySem.W.hasDictIn K A_NoWorld = true
  c3_NoWorld_NoWorld : PySem.W.typeIn K (.ref A_NoWorld) = some (.type "type")
  c4_NoWorld_NoWorld : PySem.W.subIn K (.ref A_NoWorld) (.ref A_NoWorld) = some true
  q_NoWorld_V : PySem.W.kitOne K (.ref A_NoWorld) (.type "ValueError") = some true
/-! ### wells -/
def RowAt (H : Hp) (r : Addr) : Prop := ∃ a b : Int, H r = some (.lst [.int a, .int b]) ∧ 0 ≤ b ∧ b < 2147483629
/-- all that was tracked, but for what stands at r, is as it was -/
def Off (r : Addr) (H H' : Hp) : Prop := ∀ b o, b ≠ r → H b = some o → H' b = some o
theorem Off.refl (r : Addr) (H : Hp) : Off r H H := fun _ _ _ h => h
theorem Off.trans {r : Addr} {H H1 H2 : Hp} (a : Off r H H1) (b : Off r H1 H2) : Off r H H2 := fun c o n h => b c o n (a c o n h)
theorem Off.of {r : Addr} {H H' : Hp} (a : Same H H') : Off r H H' := fun c o _ h => a c o h
theorem Off.new {r p : Addr} {H : Hp} {o : HO} (h : H p = none) : Off r H (upd H p o) := fun b x _ e => by
  rw [upd_ne (ne_of_none e h)]
  exact e
theorem Off.put {r : Addr} {H : Hp} {o : HO} : Off r H (upd H r o) := fun b x n e => by
  rw [upd_ne n]
  exact e
theorem Off.mut {r p : Addr} {H H' : Hp} {o : HO} (e : Off r H H') (h : H p = none) : Off r H (upd H' p o) := fun a u n ha => by
  rw [upd_ne (ne_of_none ha h)]
  exact e a u n ha
theorem Off.free {r p : Addr} {H H' : Hp} (e : Off r H H') (hr : r ≠ p) (h : H' p = none) : H p = none := by
  cases q : H p with
  | none => rfl
  | some o =>
    rw [e p o (Ne.symm hr) q] at h
    cases h
theorem RowAt.new {r p : Addr} {H : Hp} {o : HO} (x : RowAt H r) (h : H p = none) : RowAt (upd H p o) r := by
  obtain ⟨a, b, e, q⟩ := x
  exact ⟨a, b, by rw [upd_ne (ne_of_none e h)]; exact e, q⟩
theorem RowAt.upd {r p : Addr} {H : Hp} {o : HO} (x : RowAt H r) (h : r ≠ p) : RowAt (upd H p o) r := by
  obtain ⟨a, b, e, q⟩ := x
  exact ⟨a, b, by rw [upd_ne h]; exact e, q⟩
theorem RowAt.ne {r p : Addr} {H : Hp} (x : RowAt H r) (h : H p = none) : r ≠ p := by
  obtain ⟨a, b, e, q⟩ := x
  exact ne_of_none e h
theorem RowAt.neT {r p : Addr} {H : Hp} {xs : List V} (x : RowAt H r) (h : H p = some (.tup xs)) : p ≠ r := by
  obtain ⟨a, b, e, q⟩ := x
  exact ne_of h e (by intro z; cases z)
theorem same_new {H : Hp} {p : Addr} {o : HO} (h : H p = none) : Same H (upd H p o) := fun b x e => by
  rw [upd_ne (ne_of_none e h)]
  exact e
section
variable {P : Program} {w : World} {K : PySem.W.Frag} {mg : Str → Option Value} {base : Heap}
/-! ### _law_well -/
def sp_law_well : Sp := fun vs H Q _ => ∃ c : Int, vs = [.int c] ∧ ∀ H' p, Same H H' → H p = none → RowAt H' p → Q (.ref p) H'
theorem ok_law_well (T : TX K mg) : FnOk P w K mg base CX0 1 T.a_law_well T.fd_law_well ["cell"] sp_law_well := by
  refine T.F_law_well.ok sc_law_well (fun vs H Q E h => ?_) (fun cdv A outer s H vs Q E hr h => ?_)
  · obtain ⟨c, rfl, _⟩ := h
    rfl
  · obtain ⟨c, rfl, q⟩ := h
    refine ⟨_, (pss_cons (ps_if (pt_cmpR op_ge (pv 0) (pe_op op_pow pe_int pe_int) (nomark _))
        (pss_one (ps_ret (pe_lst (pa_cons (pv 0) (pa_cons (pe_op op_mod (pv 0) pe_int) pa_nil)))))
        pss_nil)
      (pss_one (ps_ret (pe_lst (pa_cons pe_int (pa_cons (pe_op op_mod (pv 0) pe_int) pa_nil)))))), ?_⟩
    have h0 : 0 ≤ c % 2147483629 := Int.emod_nonneg _ (by decide)
    have h1 : c % 2147483629 < 2147483629 := Int.emod_lt_of_pos _ (by decide)
    refine ⟨.int c, rfl, 10, 18, rfl, rfl, ⟨by decide, by decide, by decide⟩, c, 10 ^ 18, rfl, rfl, _, rfl, ite2 (fun e => ?_) (fun e => ?_)⟩
    · refine ⟨.int c, rfl, .int c, rfl, c, 2147483629, rfl, rfl, (by show (0 : Int) < 2147483629; decide), by show 2 ≤ sizeLine; decide, fun p hp => ?_⟩
      exact q _ p (same_new hp) hp ⟨c, _, upd_same, h0, h1⟩
    · refine ⟨.int c, rfl, c, 2147483629, rfl, rfl, (by show (0 : Int) < 2147483629; decide), by show 2 ≤ sizeLine; decide, fun p hp => ?_⟩
      exact q _ p (same_new hp) hp ⟨0, _, upd_same, h0, h1⟩
/-! ### _law_draw -/
def sp_law_draw : Sp := fun vs H Q _ => ∃ (r : Addr) (n : Int), vs = [.ref r, .int n] ∧ RowAt H r ∧ 0 < n ∧ n < 1073741824 ∧ ∀ H' g, Off r H H' → RowAt H' r → 0 ≤ g → g < n → Q (.int g) H'
theorem ok_law_draw (T : TX K mg) : FnOk P w K mg base CX0 1 T.a_law_draw T.fd_law_draw ["well", "many"] sp_law_draw := by
  refine T.F_law_draw.ok sc_law_draw (fun vs H Q E h => ?_) (fun cdv A outer s H vs Q E hr h => ?_)
  · obtain ⟨r, n, rfl, _⟩ := h
    rfl
  · obtain ⟨r, n, rfl, ⟨a, b, hrow, hb0, hb1⟩, hn0, hn1, q⟩ := h
    refine ⟨_, (pss_cons (ps_if (pt_cmpR op_gt (pe_ix (ix_listK K rfl) (pv 0) pe_int (fun _ _ => rfl)) pe_int (nomark _))
        (pss_cons (ps_set (i := 2) sc_law_draw.nd rfl (Or.inl rfl) (pe_op op_mod (pe_ix (ix_listK K rfl) (pv 0) pe_int (fun _ _ => rfl)) (pv 1)))
          (pss_cons (ps_asg (pe_op op_fdiv (pe_ix (ix_listK K rfl) (pv 0) pe_int (fun _ _ => rfl)) (pv 1)) (pg_sub (pv 0) pe_int set_list))
          (pss_one (ps_ret (pv 2)))))
        pss_nil)
      (pss_cons (ps_set (i := 3) sc_law_draw.nd rfl (Or.inl rfl) (pe_op op_mod (pe_op op_add (pe_op op_mul (pe_ix (ix_listK K rfl) (pv 0) pe_int (fun _ _ => rfl)) pe_int) pe_int) pe_int))
      (pss_cons (ps_set (i := 3) sc_law_draw.nd rfl (Or.inl rfl) (pe_op op_mod (pe_op op_mul (pv 3) (pv 3)) pe_int))
      (pss_cons (ps_asg (pe_op op_mod (pe_op op_add (pe_op op_mul (pv 3) pe_int) pe_int) pe_int) (pg_sub (pv 0) pe_int set_list))
      (pss_one (ps_ret (pe_op op_mod (pe_op op_fdiv (pe_ix (ix_listK K rfl) (pv 0) pe_int (fun _ _ => rfl)) pe_int) (pv 1)))))))), ?_⟩
    have sq : SqL K H r [.int a, .int b] := .inl (.inl hrow)
    refine ⟨.ref r, rfl, r, _, 0, .int a, rfl, rfl, sq, atI_nat (j := 0) rfl, a, 0, rfl, rfl, _, rfl, ite2 (fun e => ?_) (fun e => ?_)⟩
    · refine ⟨.ref r, rfl, r, _, 0, .int a, rfl, rfl, sq, atI_nat (j := 0) rfl, .int n, rfl, a, n, rfl, rfl, hn0, ?_⟩
      refine ⟨.ref r, rfl, r, _, 0, .int a, rfl, rfl, sq, atI_nat (j := 0) rfl, .int n, rfl, a, n, rfl, rfl, ⟨hn0, hn1⟩, ?_⟩
      refine ⟨.ref r, rfl, r, _, 0, 0, rfl, rfl, hrow, rfl, ?_⟩
      refine ⟨.int (a % n), rfl, ?_⟩
      exact q _ _ Off.put ⟨a / n, b, upd_same, hb0, hb1⟩ (Int.emod_nonneg _ (by omega)) (Int.emod_lt_of_pos _ hn0)
    · refine ⟨.ref r, rfl, r, _, 1, .int b, rfl, rfl, sq, atI_nat (j := 1) rfl, b, 48271, rfl, rfl, .inl ⟨by omega, by omega⟩, _, _, rfl, rfl, _, _, rfl, rfl, (by show (0 : Int) < 2147483647; decide), ?_⟩
      have s0 : 0 ≤ (b * 48271 + 11) % 2147483647 := Int.emod_nonneg _ (by decide)
      have s1 : (b * 48271 + 11) % 2147483647 < 2147483647 := Int.emod_lt_of_pos _ (by decide)
      refine ⟨.int ((b * 48271 + 11) % 2147483647), rfl, .int ((b * 48271 + 11) % 2147483647), rfl, (b * 48271 + 11) % 2147483647, (b * 48271 + 11) % 2147483647, rfl, rfl, .inl ⟨by omega, by omega⟩, _, _, rfl, rfl, (by show (0 : Int) < 2147483587; decide), ?_⟩
      obtain ⟨S, hS⟩ : ∃ S : Int, S = (b * 48271 + 11) % 2147483647 * ((b * 48271 + 11) % 2147483647) % 2147483587 := ⟨_, rfl⟩
      have t0 : 0 ≤ S := by rw [hS]; exact Int.emod_nonneg _ (by decide)
      have t1 : S < 2147483587 := by rw [hS]; exact Int.emod_lt_of_pos _ (by decide)
      refine ⟨.int S, by rw [hS]; rfl, S, 69621, rfl, rfl, .inl ⟨by omega, by omega⟩, _, _, rfl, rfl, _, _, rfl, rfl, (by show (0 : Int) < 2147483629; decide), ?_⟩
      refine ⟨.ref r, rfl, r, _, 1, 1, rfl, rfl, hrow, rfl, ?_⟩
      have g0 : 0 ≤ (S * 69621 + 40692) % 2147483629 := Int.emod_nonneg _ (by decide)
      have g1 : (S * 69621 + 40692) % 2147483629 < 2147483629 := Int.emod_lt_of_pos _ (by decide)
      refine ⟨.ref r, rfl, r, _, 1, _, rfl, rfl, .inl (.inl upd_same), atI_nat (j := 1) rfl, _, 8, rfl, rfl, ⟨by decide, by decide⟩, .int n, rfl, _, n, rfl, rfl, hn0, ?_⟩
      exact q _ _ Off.put ⟨a, _, upd_same, g0, g1⟩ (Int.emod_nonneg _ (by omega)) (Int.emod_lt_of_pos _ hn0)
end
end LH

namespace LH
open PySem PySem.Spec PyProof.Rows L2
abbrev vi (ns : List Nat) : List V := ns.map fun (n : Nat) => V.int (n : Int)
theorem vi_snoc (ys : List Nat) (c : Nat) : vi ys ++ [V.int (c : Int)] = vi (ys ++ [c]) := by
  show _ = List.map _ (ys ++ [c])
  rw [List.map_append]
  rfl
abbrev vr (as : List Addr) : List V := as.map V.ref
theorem vr_snoc (ys : List Addr) (c : Addr) : vr ys ++ [V.ref c] = vr (ys ++ [c]) := by
  show _ = List.map _ (ys ++ [c])
  rw [List.map_append]
  rfl
/-- tuples stand -/
def Tups (H H' : Hp) : Prop := ∀ b xs, H b = some (.tup xs) → H' b = some (.tup xs)
theorem Tups.refl (H : Hp) : Tups H H := fun _ _ h => h
theorem Tups.trans {H H1 H2 : Hp} (a : Tups H H1) (b : Tups H1 H2) : Tups H H2 := fun c o h => b c o (a c o h)
theorem Tups.same {H H' : Hp} (a : Same H H') : Tups H H' := fun c _ h => a c _ h
theorem Tups.off {r : Addr} {H H' : Hp} (R : RowAt H r) (a : Off r H H') : Tups H H' := fun c _ h => a c _ (R.neT h) h
theorem Tups.new {p : Addr} {H : Hp} {o : HO} (h : H p = none) : Tups H (upd H p o) := Tups.same (same_new h)
theorem Tups.lst {p : Addr} {H : Hp} {xs : List V} {o : HO} (h : H p = some (.lst xs)) : Tups H (upd H p o) := fun c ys e => by
  rw [upd_ne (ne_of e h (by intro z; cases z))]
  exact e
theorem mem_snoc {α : Type} {p : α → Prop} {xs : List α} {x : α} (h : ∀ y ∈ xs, p y) (hx : p x) : ∀ y ∈ xs ++ [x], p y := fun y hy => by
  rcases List.mem_append.mp hy with q | q
  · exact h y q
  · rw [List.mem_singleton.mp q]
    exact hx
theorem tAdd_nodup {l : List Str} {k : Str} (h : l.Nodup) : (tAdd l k).Nodup := by
  unfold tAdd
  split
  · exact h
  · rename_i q
    exact List.nodup_cons.mpr ⟨q, h⟩
theorem tAll_nodup (xs : List Str) : (tAll xs).Nodup := by
  unfold tAll
  have : ∀ (xs l : List Str), l.Nodup → (xs.foldl tAdd l).Nodup := by
    intro xs
    induction xs with
    | nil => intro l h; exact h
    | cons x r ih => intro l h; exact ih _ (tAdd_nodup h)
  exact this xs [] List.nodup_nil
theorem sum_sg (cs : List Nat) : ((cs.map sg).map (·.length)).sum = cs.length := by
  rw [List.map_map, show ((fun x : Str => x.length) ∘ sg) = fun _ => 1 from rfl, List.map_const', List.sum_replicate_nat]
  omega
/-- signs that are sorted and were put into a set -/
theorem sg_sorted {cs : List Nat} {zs : List Str} (p : zs.Perm (tAll (cs.map sg))) (s : sortedS zs = true) : ∃ ds : List Nat, zs = ds.map sg ∧ ds.Pairwise (· < ·) ∧ (∀ c, c ∈ ds ↔ c ∈ cs) ∧ ds.length ≤ cs.length := by
  have hm : ∀ x, x ∈ zs ↔ x ∈ cs.map sg := fun x => p.mem_iff.trans mem_tAll
  let f : Str → Nat := fun z => z.cps.getD 0 0
  have e : zs = (zs.map f).map sg := by
    rw [List.map_map]
    conv => lhs; rw [← List.map_id zs]
    refine List.map_congr_left fun y hy => ?_
    obtain ⟨c, _, rfl⟩ := List.mem_map.mp ((hm y).mp hy)
    rfl
  refine ⟨zs.map f, e, ?_, fun c => ?_, ?_⟩
  · have nd : zs.Nodup := p.symm.nodup (tAll_nodup _)
    have nd2 : (zs.map f).Nodup := by
      rw [e] at nd
      exact (List.pairwise_map.mp nd).imp fun h e => h (congrArg sg e)
    refine rise_of (sortedS_sg ?_) nd2
    rw [← e]
    exact s
  · have q := hm (sg c)
    constructor
    · intro h
      have : sg c ∈ zs := by
        rw [e]
        exact List.mem_map.mpr ⟨c, h, rfl⟩
      obtain ⟨d, hd, ed⟩ := List.mem_map.mp (q.mp this)
      have : d = c := by
        have := congrArg (fun y : Str => y.cps.getD 0 0) ed
        exact this
      exact this ▸ hd
    · intro h
      have := q.mpr (List.mem_map.mpr ⟨c, h, rfl⟩)
      exact List.mem_map.mpr ⟨sg c, this, rfl⟩
  · rw [List.length_map, p.length_eq]
    have := tAll_len (cs.map sg)
    rw [List.length_map] at this
    exact this
theorem let_abc {g : Nat} (h : g < 5) : IsLet (cutS "abcde" none (some (1 + (g : Int)))) := by
  have : g = 0 ∨ g = 1 ∨ g = 2 ∨ g = 3 ∨ g = 4 := by omega
  rcases this with rfl | rfl | rfl | rfl | rfl
  · exact ⟨by decide +kernel, by decide +kernel, by decide +kernel, by decide +kernel⟩
  · exact ⟨by decide +kernel, by decide +kernel, by decide +kernel, by decide +kernel⟩
  · exact ⟨by decide +kernel, by decide +kernel, by decide +kernel, by decide +kernel⟩
  · exact ⟨by decide +kernel, by decide +kernel, by decide +kernel, by decide +kernel⟩
  · exact ⟨by decide +kernel, by decide +kernel, by decide +kernel, by decide +kernel⟩
theorem az_at {g : Nat} (h : g < 26) : ("abcdefghijklmnopqrstuvwxyz" : Str).cps.toList[g]? = some (97 + g) := by
  have e : ("abcdefghijklmnopqrstuvwxyz" : Str).cps.toList = (List.range 26).map (97 + ·) := by decide +kernel
  rw [e, List.getElem?_map, List.getElem?_range h]
  rfl
section
variable {P : Program} {w : World} {K : PySem.W.Frag} {mg : Str → Option Value} {base : Heap}
/-! ### _law_letters -/
def sp_law_letters : Sp := fun vs H Q _ => ∃ r : Addr, vs = [.ref r] ∧ RowAt H r ∧ ∀ H' z, Off r H H' → RowAt H' r → IsLet z → Q (.str z) H'
theorem ok_law_letters (T : TX K mg) : FnOk P w K mg base CX0 2 T.a_law_letters T.fd_law_letters ["well"] sp_law_letters := by
  have G_law_draw : FnOk P w K mg base CX0 1 T.a_law_draw T.fd_law_draw ["well", "many"] sp_law_draw := ok_law_draw T
  refine T.F_law_letters.ok sc_law_letters (fun vs H Q E h => ?_) (fun cdv A outer s H vs Q E hr h => ?_)
  · obtain ⟨r, rfl, _⟩ := h
    rfl
  · obtain ⟨r, rfl, hR, q⟩ := h
    refine ⟨_, (pss_cons (ps_if (pt_cmpR op_eq (pe_call G_law_draw (hr.mono (by decide)) (by rfl) T.g_law_draw T.F_law_draw.kp T.b_law_draw .nil pass0 (pa_cons (pv 0) (pa_cons pe_int pa_nil))) pe_int (nomark _))
        (pss_one (ps_ret (pe_slice sl_str pe_str po_none (po_some (pe_op op_add pe_int (pe_call G_law_draw (hr.mono (by decide)) (by rfl) T.g_law_draw T.F_law_draw.kp T.b_law_draw .nil pass0 (pa_cons (pv 0) (pa_cons pe_int pa_nil))))))))
        pss_nil)
      (pss_cons (ps_set (i := 1) sc_law_letters.nd rfl (Or.inr rfl) pe_str)
      (pss_one (ps_ret (pe_m1 PySem.F.slot_str_join PySem.F.type_str_join (mt_joinK K rfl) pe_str (pe_callB (cr_sortTK P w rfl rfl rfl) (by rfl) T.m_sorted (by decide +kernel) (pa_cons (pe_callTy (cr_setLK P w K rfl rfl rfl rfl) (by rfl) T.m_set (by decide +kernel) (pa_cons (pe_lc (own := [("k", 2)]) (g := gName 2) (tt := tYes) (by rfl) sc_law_letters.nd (pi_range1 (by rfl) T.m_range (pa_cons (pe_op op_add pe_int (pe_call G_law_draw (hr.mono (by decide)) (by rfl) T.g_law_draw T.F_law_draw.kp T.b_law_draw .nil pass0 (pa_cons (pv 0) (pa_cons pe_int pa_nil)))) pa_nil)) (blkOk_by (own := [("k", 2)]) (N := N_law_letters) (by kernel_rfl)) (fun _ _ _ _ _ => (pg_name (i := 2) sc_law_letters.nd rfl (by first | exact Or.inl rfl | exact Or.inr rfl))) (fun _ _ _ _ _ => pts_nil) (fun _ _ _ _ _ => (pe_ix ix_str (pv 1) (pe_call G_law_draw (hr.mono (by decide)) (by rfl) T.g_law_draw T.F_law_draw.kp T.b_law_draw .nil pass0 (pa_cons (pv 0) (pa_cons pe_int pa_nil))) (fun _ _ => rfl)))) pa_nil)) pa_nil))))))), ?_⟩
    refine ⟨.ref r, rfl, r, 2, rfl, hR, by decide, by decide, fun H1 g1 o1 R1 _ _ => ⟨rfl, _, rfl, ite2 (fun e => ?_) (fun e => ?_)⟩⟩
    · refine ⟨.ref r, rfl, r, 5, rfl, R1, by decide, by decide, fun H2 g o2 R2 g0 g5 => ?_⟩
      obtain ⟨m, rfl⟩ : ∃ m : Nat, g = (m : Int) := ⟨g.toNat, by omega⟩
      refine ⟨1, (m : Int), rfl, rfl, 1 + (m : Int), rfl, _, rfl, by decide, ?_⟩
      exact q _ _ (o1.trans o2) R2 (let_abc (by omega))
    · refine ⟨⟨_, rfl⟩, .ref r, rfl, r, 5, rfl, R1, by decide, by decide, fun H2 g o2 R2 g0 g5 => ?_⟩
      obtain ⟨m, rfl⟩ : ∃ m : Nat, g = (m : Int) := ⟨g.toNat, by omega⟩
      refine ⟨1, (m : Int), rfl, rfl, 1 + m, rfl, by omega, by omega, fun D nD => ?_⟩
      have o := o1.trans o2
      have fD : H D = none := o.free (R2.ne nD) nD
      have rD : r ≠ D := R2.ne nD
      refine lc_range (lo := 0) (n := (1 + (m : Int)).toNat) (fun i H' => ∃ cs, RowAt H' r ∧ Off r H H' ∧ H' D = some (.lst (vs_ cs)) ∧ cs.length = i ∧ ∀ c ∈ cs, 97 ≤ c ∧ c ≤ 122) ⟨[], R2.new nD, o.mut fD, upd_same, rfl, fun _ h => nomatch h⟩ (fun i H3 hi hW => ?_) (fun H3 hW => ?_)
      · obtain ⟨cs, R3, o3, e3, l3, c3⟩ := hW
        refine ⟨rfl, lcyes ?_⟩
        refine ⟨_, rfl, .ref r, rfl, r, 26, rfl, R3, by decide, by decide, fun H4 g o4 R4 a0 a1 => ?_⟩
        obtain ⟨k, rfl⟩ : ∃ k : Nat, g = (k : Int) := ⟨g.toNat, by omega⟩
        refine ⟨_, (k : Int), 97 + k, rfl, rfl, by decide, atI_nat (az_at (by omega)), vs_ cs, o4 _ _ rD.symm e3, ?_, cs ++ [97 + k], R4.upd rD, (o3.trans o4).mut fD, ?_, ?_, mem_snoc c3 (by omega)⟩
        · rw [List.length_map, l3]
          exact small1000 (by omega)
        · rw [upd_same, vs_snoc]
        · rw [List.length_append, l3]
          rfl
      · obtain ⟨cs, R3, o3, e3, l3, c3⟩ := hW
        have hcl : cs.length ≤ 5 := by omega
        refine ⟨D, cs.map sg, rfl, .inl (.inl (by rw [List.map_map]; exact e3)), by rw [List.length_map]; omega, fun p4 n4 => ?_⟩
        have f4 : H p4 = none := o3.free (R3.ne n4) n4
        have R4 := R3.new (o := SetT P w p4 (tAll (cs.map sg))) n4
        refine ⟨p4, _, rfl, upd_same, ?_, fun zs p5 pm srt n5 => ?_⟩
        · have := tAll_len (cs.map sg)
          rw [List.length_map] at this
          omega
        have f5 : H p5 = none := (o3.mut f4).free (R4.ne n5) n5
        obtain ⟨ds, rfl, dr, dm, dl⟩ := sg_sorted pm srt
        refine ⟨⟨#[]⟩, p5, ds.map sg, rfl, rfl, .inl (.inl (.inl upd_same)), ?_, ?_⟩
        · rw [List.length_map, sum_sg]
          show ds.length + ds.length * 0 ≤ 16777216
          omega
        · rw [join_sg]
          refine q _ _ ((o3.mut f4).mut f5) (R4.new n5) ⟨?_, ?_, dr, fun c hc => c3 c ((dm c).mp hc)⟩
          · show 1 ≤ ds.toArray.size
            rw [List.size_toArray]
            have hc0 : 0 < cs.length := by omega
            have : cs[0] ∈ ds := (dm _).mpr (List.getElem_mem hc0)
            exact List.length_pos_of_mem this
          · show ds.toArray.size ≤ 5
            rw [List.size_toArray]
            omega
/-! ### _law_one_of -/
def sp_law_one_of : Sp := fun vs H Q _ => ∃ (r : Addr) (z : Str), vs = [.ref r, .str z] ∧ RowAt H r ∧ 1 ≤ z.length ∧ z.length ≤ 1000 ∧ ∀ H' c, Off r H H' → RowAt H' r → c ∈ z.cps.toList → Q (.str (sg c)) H'
theorem ok_law_one_of (T : TX K mg) : FnOk P w K mg base CX0 2 T.a_law_one_of T.fd_law_one_of ["well", "letters"] sp_law_one_of := by
  have G_law_draw : FnOk P w K mg base CX0 1 T.a_law_draw T.fd_law_draw ["well", "many"] sp_law_draw := ok_law_draw T
  refine T.F_law_one_of.ok sc_law_one_of (fun vs H Q E h => ?_) (fun cdv A outer s H vs Q E hr h => ?_)
  · obtain ⟨r, z, rfl, _⟩ := h
    rfl
  · obtain ⟨r, z, rfl, hR, h1, h2, q⟩ := h
    refine ⟨_, (pss_one (ps_ret (pe_ix ix_str (pv 1) (pe_call G_law_draw (hr.mono (by decide)) (by rfl) T.g_law_draw T.F_law_draw.kp T.b_law_draw .nil pass0 (pa_cons (pv 0) (pa_cons (pe_callB call_len_str (by rfl) T.m_len (by decide +kernel) (pa_cons (pv 1) pa_nil)) pa_nil))) (fun _ _ => rfl)))), ?_⟩
    have zs : z.length ≤ sizeLine := Nat.le_trans h2 (by decide)
    refine ⟨.str z, rfl, .ref r, rfl, .str z, rfl, z, rfl, zs, r, (z.length : Int), rfl, hR, by omega, by omega, fun H1 g o1 R1 a0 a1 => ?_⟩
    obtain ⟨k, rfl⟩ : ∃ k : Nat, g = (k : Int) := ⟨g.toNat, by omega⟩
    have hk : k < z.cps.toList.length := by
      rw [Array.length_toList]
      have : (k : Int) < (z.cps.size : Nat) := a1
      omega
    exact ⟨z, (k : Int), z.cps.toList[k], rfl, rfl, zs, atI_nat (List.getElem?_eq_getElem hk), q _ _ o1 R1 (List.getElem_mem hk)⟩
/-! ### _law_some -/
def sp_law_some : Sp := fun vs H Q _ => ∃ (r : Addr) (z : Str), vs = [.ref r, .str z] ∧ RowAt H r ∧ IsLet z ∧ ∀ H' (cs : List Nat), Off r H H' → RowAt H' r → cs.Sublist z.cps.toList → 1 ≤ cs.length → Q (.str ⟨cs.toArray⟩) H'
theorem dpAll_str {K : PySem.W.Frag} {H : Hp} : ∀ xs : List Str, DpAll K H (xs.map V.str) (xs.map PyData.str)
  | [] => .nil
  | c :: r => .cons (.str _) (dpAll_str r)
theorem canAll_str : ∀ xs : List Str, (∀ x ∈ xs, PyData.strOk x = true) → PyData.canLayAll0 (xs.map PyData.str) = true
  | [], _ => rfl
  | x :: r, h => by
    have h1 := h x List.mem_cons_self
    have h2 := canAll_str r fun y hy => h y (List.mem_cons_of_mem _ hy)
    simp [PyData.canLayAll0, PyData.canLay0, h1, h2]
theorem depthAll_str : ∀ xs : List Str, PyData.depthAll (xs.map PyData.str) = 0
  | [] => rfl
  | _ :: r => by simp [PyData.depthAll, PyData.depth, depthAll_str r]
theorem shaped_strs (xs : List Str) (h : ∀ x ∈ xs, PyData.strOk x = true) : SeqAt.shaped (.list (xs.map PyData.str)) = true := by
  simp [SeqAt.shaped, PyData.canLay0, PyData.depth, canAll_str xs h, depthAll_str]
theorem strOk_sg {c : Nat} (h : c ≤ 122) : PyData.strOk (sg c) = true := by
  have : c < 0x110000 := by omega
  simp [PyData.strOk, this]
theorem ok_law_some (T : TX K mg) : FnOk P w K mg base CX0 3 T.a_law_some T.fd_law_some ["well", "letters"] sp_law_some := by
  have G_law_draw : FnOk P w K mg base CX0 1 T.a_law_draw T.fd_law_draw ["well", "many"] sp_law_draw := ok_law_draw T
  have G_law_one_of : FnOk P w K mg base CX0 2 T.a_law_one_of T.fd_law_one_of ["well", "letters"] sp_law_one_of := ok_law_one_of T
  refine T.F_law_some.ok sc_law_some (fun vs H Q E h => ?_) (fun cdv A outer s H vs Q E hr h => ?_)
  · obtain ⟨r, z, rfl, _⟩ := h
    rfl
  · obtain ⟨r, z, rfl, hR, hz, q⟩ := h
    refine ⟨_, (pss_cons (ps_setLc (i := 2) (own := [("sign", 3)]) (g := gName 3) (by rfl) sc_law_some.nd rfl rfl (sw_true rfl rfl rfl (by decide +kernel)) (pi_str (pv 1)) (blkOk_by (own := [("sign", 3)]) (N := N_law_some) (by kernel_rfl)) (fun _ _ _ _ _ => (pg_name (i := 3) sc_law_some.nd rfl (by first | exact Or.inl rfl | exact Or.inr rfl))) (fun _ _ _ _ _ => (pts_one (pt_cmpR op_eq (pe_call G_law_draw (hr.mono (by decide)) (by rfl) T.g_law_draw T.F_law_draw.kp T.b_law_draw .nil pass0 (pa_cons (pv 0) (pa_cons pe_int pa_nil))) pe_int (nomark _)))) (fun _ _ _ _ _ => (pv 3)))
      (C8.pss_cut (ps_if (pt_cmpR (op_eqD hr.units) (pv 2) (pe_lst pa_nil) (nomark _))
        (pss_one (ps_set (i := 2) sc_law_some.nd rfl (Or.inl rfl) (pe_lst (pa_cons (pe_call G_law_one_of (hr.mono (by decide)) (by rfl) T.g_law_one_of T.F_law_one_of.kp T.b_law_one_of .nil pass0 (pa_cons (pv 0) (pa_cons (pv 1) pa_nil))) pa_nil))))
        pss_nil)
      (pss_one (ps_ret (pe_m1 PySem.F.slot_str_join PySem.F.type_str_join (mt_joinK K rfl) pe_str (pv 2)))))), ?_⟩
    have h5 := hz.five
    have h1 := hz.one
    refine ⟨.str z, rfl, z, rfl, fun D nD => ?_⟩
    have rD : r ≠ D := hR.ne nD
    refine lc_it walk_str (fun i H' => ∃ cs, RowAt H' r ∧ Off r H H' ∧ H' D = some (.lst (vs_ cs)) ∧ cs.Sublist (z.cps.toList.take i)) ⟨[], hR.new nD, Off.new nD, upd_same, List.nil_sublist _⟩ (fun _ _ _ _ => trivial) (fun i x H2 H2' hi hW hY => ?_) (fun H2 hW => ?_)
    · obtain ⟨cs, R2, o2, e2, s2⟩ := hW
      obtain ⟨rfl, c, hc, rfl⟩ := hY
      have hc' : z.cps.toList[i]? = some c := by
        rw [Array.getElem?_toList]
        exact hc
      have et : z.cps.toList.take (i + 1) = z.cps.toList.take i ++ [c] := by
        rw [List.take_add_one, hc']
        rfl
      refine ⟨rfl, .ref r, rfl, r, 2, rfl, R2, by decide, by decide, fun H3 g o3 R3 _ _ => ⟨rfl, _, rfl, ite2 (fun _ => ?_) (fun _ => ?_)⟩⟩
      · refine ⟨.str (sg c), rfl, vs_ cs, o3 _ _ rD.symm e2, ?_, cs ++ [c], R3.upd rD, (o2.trans o3).mut nD, ?_, ?_⟩
        · have := s2.length_le
          have := List.length_take_le i z.cps.toList
          rw [List.length_map]
          have : i < z.length := hi
          exact small1000 (by omega)
        · rw [upd_same, vs_snoc]
        · rw [et]
          exact List.Sublist.append s2 (List.Sublist.refl _)
      · refine ⟨cs, R3, o2.trans o3, o3 _ _ rD.symm e2, ?_⟩
        rw [et]
        exact s2.trans (List.sublist_append_left _ _)
    · obtain ⟨cs, R2, o2, e2, s2⟩ := hW
      rw [List.take_of_length_le (by rw [Array.length_toList]; exact Nat.le_refl _)] at s2
      have hcs : cs.length ≤ 5 := by
        have := s2.length_le
        rw [Array.length_toList] at this
        exact Nat.le_trans this h5
      refine ⟨fun σ' H' => ∃ d ds, σ' = [some (.ref r), some (.str z), some (.ref d), none] ∧ RowAt H' r ∧ Off r H H' ∧ H' d = some (.lst (vs_ ds)) ∧ ds.Sublist z.cps.toList ∧ 1 ≤ ds.length ∧ ds.length ≤ 5, ?_, fun σ' H' hM => ?_⟩
      · refine ⟨.ref D, rfl, by show 0 ≤ sizeLine; decide, fun p3 n3 => ?_⟩
        have f3 : H p3 = none := o2.free (R2.ne n3) n3
        have ev : vs_ cs = (cs.map sg).map V.str := by rw [List.map_map]; rfl
        refine ⟨.list ((cs.map sg).map PyData.str), .list [], .lst (.inl (.inl ((same_new n3) _ _ e2))) (ev ▸ dpAll_str (cs.map sg)), .lst (.inl (.inl upd_same)) .nil, shaped_strs _ (fun x hx => ?_), shaped_strs [] (fun _ h => nomatch h), _, rfl, ite2 (fun e => ?_) (fun e => ?_)⟩
        · obtain ⟨c, hc, rfl⟩ := List.mem_map.mp hx
          exact strOk_sg (hz.small c (s2.subset hc)).2
        · refine ⟨.ref r, rfl, .str z, rfl, r, z, rfl, R2.new n3, h1, by omega, fun H4 c o4 R4 hc => ?_⟩
          refine ⟨by show 1 ≤ sizeLine; decide, fun p5 n5 => ?_⟩
          have o5 := (o2.mut f3).trans o4
          have f5 : H p5 = none := o5.free (R4.ne n5) n5
          exact ⟨p5, [c], rfl, R4.new n5, o5.mut f5, upd_same, List.singleton_sublist.mpr hc, Nat.le_refl 1, (by show 1 ≤ 5; decide)⟩
        · refine ⟨D, cs, rfl, R2.new n3, o2.mut f3, (same_new n3) _ _ e2, s2, ?_, hcs⟩
          cases cs with
          | nil => exact absurd (show PyData.eqv (.list []) (.list []) = true by rfl) e
          | cons c r => exact Nat.succ_le_succ (Nat.zero_le _)
      · obtain ⟨d, ds, rfl, R3, o3, e3, s3, l3, l4⟩ := hM
        refine ⟨⟨_, rfl⟩, .ref d, rfl, ⟨#[]⟩, d, ds.map sg, rfl, rfl, .inl (.inl (.inl (by rw [List.map_map]; exact e3))), ?_, ?_⟩
        · rw [List.length_map, sum_sg]
          show ds.length + ds.length * 0 ≤ 16777216
          omega
        · rw [join_sg]
          exact q _ _ o3 R3 s3 l3
end
end LH

namespace LH
open PySem PySem.Spec PyProof.Rows L2
/-! ### rules -/
structure Grd where
  how : Str
  wh : Str
  sm : List Nat
inductive Rul where
  | one (x y : Nat) (g : Option Grd)
  | two (x y u v : Nat)
  | call (x y : Nat) (im : List Nat)
def GrdAt (H : Hp) (v : V) : Option Grd → Prop
  | none => v = .non
  | some G => ∃ g, v = .ref g ∧ H g = some (.tup [.str G.how, .str G.wh, .str ⟨G.sm.toArray⟩])
def RulAt (H : Hp) (p : Addr) : Rul → Prop
  | .one x y g => ∃ v, H p = some (.tup [.str "one", .str (sg x), .str (sg y), v]) ∧ GrdAt H v g
  | .two x y u v => H p = some (.tup [.str "two", .str (sg x), .str (sg y), .str (sg u), .str (sg v)])
  | .call x y im => H p = some (.tup [.str "call", .str (sg x), .str (sg y), .str ⟨im.toArray⟩])
theorem GrdAt.mono {H H' : Hp} {v : V} {g : Option Grd} (t : Tups H H') (h : GrdAt H v g) : GrdAt H' v g := by
  cases g with
  | none => exact h
  | some G =>
    obtain ⟨g, e, q⟩ := h
    exact ⟨g, e, t _ _ q⟩
theorem RulAt.mono {H H' : Hp} {p : Addr} {R : Rul} (t : Tups H H') (h : RulAt H p R) : RulAt H' p R := by
  cases R with
  | one x y g =>
    obtain ⟨v, e, q⟩ := h
    exact ⟨v, t _ _ e, q.mono t⟩
  | two x y u v => exact t _ _ h
  | call x y im => exact t _ _ h
structure Grd.Ok (G : Grd) (z sh : Str) : Prop where
  how : G.how = "all" ∨ G.how = "some"
  wh : G.wh = "left" ∨ G.wh = "right" ∨ G.wh = "others"
  ring : sh = "ring" → G.wh = "others"
  sm : ∀ c ∈ G.sm, c ∈ z.cps.toList
  one : 1 ≤ G.sm.length ∧ G.sm.length ≤ 100
  up : G.sm.Pairwise (· < ·)
def Rul.Ok (z sh : Str) : Rul → Prop
  | .one x y g => x ∈ z.cps.toList ∧ y ∈ z.cps.toList ∧ ∀ G, g = some G → G.Ok z sh
  | .two x y u v => x ∈ z.cps.toList ∧ y ∈ z.cps.toList ∧ u ∈ z.cps.toList ∧ v ∈ z.cps.toList
  | .call x y im => x ∈ z.cps.toList ∧ y ∈ z.cps.toList ∧ im.length = z.length ∧ ∀ c ∈ im, c ∈ z.cps.toList
def Rul.Kind (n : Int) : Rul → Prop
  | .one _ _ _ => n ≠ 0 ∧ n ≠ 1
  | .two _ _ _ _ => n = 0
  | .call _ _ _ => n = 1
theorem three_at {g : Int} (h0 : 0 ≤ g) (h1 : g < 3) : ∃ x : Str, atI [V.str "left", V.str "right", V.str "others"] g = some (.str x) ∧ (x = "left" ∨ x = "right" ∨ x = "others") := by
  have : g = 0 ∨ g = 1 ∨ g = 2 := by omega
  rcases this with rfl | rfl | rfl
  · exact ⟨_, rfl, .inl rfl⟩
  · exact ⟨_, rfl, .inr (.inl rfl)⟩
  · exact ⟨_, rfl, .inr (.inr rfl)⟩
theorem two_at {g : Int} {a b : Str} (h0 : 0 ≤ g) (h1 : g < 2) : ∃ x : Str, atI [V.str a, V.str b] g = some (.str x) ∧ (x = a ∨ x = b) := by
  have : g = 0 ∨ g = 1 := by omega
  rcases this with rfl | rfl
  · exact ⟨_, rfl, .inl rfl⟩
  · exact ⟨_, rfl, .inr rfl⟩
section
variable {P : Program} {w : World} {K : PySem.W.Frag} {mg : Str → Option Value} {base : Heap}
def sp_law_rule : Sp := fun vs H Q _ => ∃ (r : Addr) (z sh : Str) (n : Int), vs = [.ref r, .str z, .str sh, .int n] ∧ RowAt H r ∧ IsLet z ∧ ∀ H' p R, Off r H H' → RowAt H' r → RulAt H' p R → R.Ok z sh → R.Kind n → Q (.ref p) H'
theorem ok_law_rule (T : TX K mg) : FnOk P w K mg base CX0 4 T.a_law_rule T.fd_law_rule ["well", "letters", "shape", "kind"] sp_law_rule := by
  have G_law_draw : FnOk P w K mg base CX0 1 T.a_law_draw T.fd_law_draw ["well", "many"] sp_law_draw := ok_law_draw T
  have G_law_one_of : FnOk P w K mg base CX0 2 T.a_law_one_of T.fd_law_one_of ["well", "letters"] sp_law_one_of := ok_law_one_of T
  have G_law_some : FnOk P w K mg base CX0 3 T.a_law_some T.fd_law_some ["well", "letters"] sp_law_some := ok_law_some T
  refine T.F_law_rule.ok sc_law_rule (fun vs H Q E h => ?_) (fun cdv A outer s H vs Q E hr h => ?_)
  · obtain ⟨r, z, sh, n, rfl, _⟩ := h
    rfl
  · obtain ⟨r, z, sh, n, rfl, hR, hz, q⟩ := h
    refine ⟨_, (pss_cons (ps_set (i := 4) sc_law_rule.nd rfl (Or.inl rfl) (pe_call G_law_one_of (hr.mono (by decide)) (by rfl) T.g_law_one_of T.F_law_one_of.kp T.b_law_one_of .nil pass0 (pa_cons (pv 0) (pa_cons (pv 1) pa_nil))))
      (pss_cons (ps_set (i := 5) sc_law_rule.nd rfl (Or.inl rfl) (pe_call G_law_one_of (hr.mono (by decide)) (by rfl) T.g_law_one_of T.F_law_one_of.kp T.b_law_one_of .nil pass0 (pa_cons (pv 0) (pa_cons (pv 1) pa_nil))))
      (pss_cons (ps_if (pt_cmpR op_eq (pv 3) pe_int (nomark _))
        (pss_one (ps_ret (pe_tup (pa_cons pe_str (pa_cons (pv 4) (pa_cons (pv 5) (pa_cons (pe_call G_law_one_of (hr.mono (by decide)) (by rfl) T.g_law_one_of T.F_law_one_of.kp T.b_law_one_of .nil pass0 (pa_cons (pv 0) (pa_cons (pv 1) pa_nil))) (pa_cons (pe_call G_law_one_of (hr.mono (by decide)) (by rfl) T.g_law_one_of T.F_law_one_of.kp T.b_law_one_of .nil pass0 (pa_cons (pv 0) (pa_cons (pv 1) pa_nil))) pa_nil))))))))
        pss_nil)
      (pss_cons (ps_if (pt_cmpR op_eq (pv 3) pe_int (nomark _))
        (pss_one (ps_ret (pe_tup (pa_cons pe_str (pa_cons (pv 4) (pa_cons (pv 5) (pa_cons (pe_m1 PySem.F.slot_str_join PySem.F.type_str_join (mt_joinK K rfl) pe_str (pe_lc (own := [("letter", 8)]) (g := gName 8) (tt := tYes) (by rfl) sc_law_rule.nd (pi_str (pv 1)) (blkOk_by (own := [("letter", 8)]) (N := N_law_rule) (by kernel_rfl)) (fun _ _ _ _ _ => (pg_name (i := 8) sc_law_rule.nd rfl (by first | exact Or.inl rfl | exact Or.inr rfl))) (fun _ _ _ _ _ => pts_nil) (fun _ _ _ _ _ => (pe_call G_law_one_of (hr.mono (by decide)) (by rfl) T.g_law_one_of T.F_law_one_of.kp T.b_law_one_of .nil pass0 (pa_cons (pv 0) (pa_cons (pv 1) pa_nil)))))) pa_nil)))))))
        pss_nil)
      (pss_cons (ps_set (i := 6) sc_law_rule.nd rfl (Or.inl rfl) (pe_ix (ix_listK K rfl) (pe_lst (pa_cons pe_str (pa_cons pe_str (pa_cons pe_str pa_nil)))) (pe_call G_law_draw (hr.mono (by decide)) (by rfl) T.g_law_draw T.F_law_draw.kp T.b_law_draw .nil pass0 (pa_cons (pv 0) (pa_cons pe_int pa_nil))) (fun _ _ => rfl)))
      (C8.pss_cut (ps_if (pt_cmpR op_eq (pv 2) pe_str (nomark _))
        (pss_one (ps_set (i := 6) sc_law_rule.nd rfl (Or.inl rfl) pe_str))
        pss_nil)
      (pss_cons (ps_set (i := 7) sc_law_rule.nd rfl (Or.inl rfl) (pe_tup (pa_cons (pe_ix (ix_listK K rfl) (pe_lst (pa_cons pe_str (pa_cons pe_str pa_nil))) (pe_call G_law_draw (hr.mono (by decide)) (by rfl) T.g_law_draw T.F_law_draw.kp T.b_law_draw .nil pass0 (pa_cons (pv 0) (pa_cons pe_int pa_nil))) (fun _ _ => rfl)) (pa_cons (pv 6) (pa_cons (pe_call G_law_some (hr.mono (by decide)) (by rfl) T.g_law_some T.F_law_some.kp T.b_law_some .nil pass0 (pa_cons (pv 0) (pa_cons (pv 1) pa_nil))) pa_nil)))))
      (pss_one (ps_ret (pe_tup (pa_cons pe_str (pa_cons (pv 4) (pa_cons (pv 5) (pa_cons (pe_ix (ix_listK K rfl) (pe_lst (pa_cons pe_non (pa_cons (pv 7) (pa_cons (pv 7) pa_nil)))) (pe_call G_law_draw (hr.mono (by decide)) (by rfl) T.g_law_draw T.F_law_draw.kp T.b_law_draw .nil pass0 (pa_cons (pv 0) (pa_cons pe_int pa_nil))) (fun _ _ => rfl)) pa_nil)))))))))))))), ?_⟩
    have h1 := hz.one
    have h5 := hz.five
    have z2 : z.length ≤ 1000 := by omega
    refine ⟨.ref r, rfl, .str z, rfl, r, z, rfl, hR, h1, z2, fun H1 x o1 R1 hx => ?_⟩
    refine ⟨.ref r, rfl, .str z, rfl, r, z, rfl, R1, h1, z2, fun H2 y o2 R2 hy => ?_⟩
    have oo := o1.trans o2
    refine ⟨.int n, rfl, rfl, _, rfl, ite2 (fun e0 => ?_) (fun e0 => ?_)⟩
    · have e0 : n = 0 := by simpa using e0
      refine ⟨.str (sg x), rfl, .str (sg y), rfl, .ref r, rfl, .str z, rfl, r, z, rfl, R2, h1, z2, fun H3 u o3 R3 hu => ?_⟩
      refine ⟨.ref r, rfl, .str z, rfl, r, z, rfl, R3, h1, z2, fun H4 v o4 R4 hv => ?_⟩
      refine ⟨by show 5 ≤ sizeLine; decide, fun p n5 => ?_⟩
      have o5 := (oo.trans o3).trans o4
      exact q _ p (.two x y u v) (o5.mut (o5.free (R4.ne n5) n5)) (R4.new n5) upd_same ⟨hx, hy, hu, hv⟩ e0
    have n0 : n ≠ 0 := fun e => by simp [e] at e0
    refine ⟨.int n, rfl, rfl, _, rfl, ite2 (fun e1 => ?_) (fun e1 => ?_)⟩
    · have e1 : n = 1 := by simpa using e1
      refine ⟨.str (sg x), rfl, .str (sg y), rfl, ⟨_, rfl⟩, .str z, rfl, z, rfl, fun D nD => ?_⟩
      have rD : r ≠ D := R2.ne nD
      have fD : H D = none := oo.free rD nD
      refine lc_it walk_str (fun i H' => ∃ cs, RowAt H' r ∧ Off r H H' ∧ H' D = some (.lst (vs_ cs)) ∧ cs.length = i ∧ ∀ c ∈ cs, c ∈ z.cps.toList) ⟨[], R2.new nD, oo.mut fD, upd_same, rfl, fun _ h => nomatch h⟩ (fun _ _ _ _ => trivial) (fun i v H3 H3' hi hW hY => ?_) (fun H3 hW => ?_)
      · obtain ⟨cs, R3, o3, e3, l3, c3⟩ := hW
        obtain ⟨rfl, c, hc, rfl⟩ := hY
        refine ⟨rfl, lcyes ?_⟩
        refine ⟨.ref r, rfl, .str z, rfl, r, z, rfl, R3, h1, z2, fun H4 d o4 R4 hd => ?_⟩
        refine ⟨vs_ cs, o4 _ _ rD.symm e3, ?_, cs ++ [d], R4.upd rD, (o3.trans o4).mut fD, ?_, ?_, mem_snoc c3 hd⟩
        · rw [List.length_map, l3]
          have : i < z.length := hi
          exact small1000 (by omega)
        · rw [upd_same, vs_snoc]
        · rw [List.length_append, l3]
          rfl
      · obtain ⟨cs, R3, o3, e3, l3, c3⟩ := hW
        have l3 : cs.length = z.length := l3
        refine ⟨⟨#[]⟩, D, cs.map sg, rfl, rfl, .inl (.inl (.inl (by rw [List.map_map]; exact e3))), ?_, ?_⟩
        · rw [List.length_map, sum_sg]
          show cs.length + cs.length * 0 ≤ 16777216
          omega
        rw [join_sg]
        refine ⟨by show 4 ≤ sizeLine; decide, fun p n5 => ?_⟩
        exact q _ p (.call x y cs) (o3.mut (o3.free (R3.ne n5) n5)) (R3.new n5) upd_same ⟨hx, hy, l3, c3⟩ e1
    have n1 : n ≠ 1 := fun e => by simp [e] at e1
    refine ⟨by show 3 ≤ sizeLine; decide, fun p3 n3 => ?_⟩
    have f3 : H p3 = none := oo.free (R2.ne n3) n3
    refine ⟨.ref r, rfl, r, 3, rfl, R2.new n3, by decide, by decide, fun H4 g o4 R4 g0 g1 => ?_⟩
    obtain ⟨wh, ew, hw⟩ := three_at g0 g1
    have o5 := (oo.mut f3).trans o4
    refine ⟨p3, _, g, .str wh, rfl, rfl, .inl (.inl (o4 _ _ (R2.ne n3).symm upd_same)), ew, ?_⟩
    refine ⟨fun σ' H' => ∃ wh : Str, σ' = [some (.ref r), some (.str z), some (.str sh), some (.int n), some (.str (sg x)), some (.str (sg y)), some (.str wh), none, none] ∧ H' = H4 ∧ (wh = "left" ∨ wh = "right" ∨ wh = "others") ∧ (sh = "ring" → wh = "others"), ?_, fun σ' H' hM => ?_⟩
    · refine ⟨.str sh, rfl, rfl, _, rfl, ite2 (fun e => ?_) (fun e => ?_)⟩
      · exact ⟨"others", rfl, rfl, .inr (.inr rfl), fun _ => rfl⟩
      · exact ⟨wh, rfl, rfl, hw, fun c => absurd (by simp [c]) e⟩
    obtain ⟨wh, rfl, rfl, hw, hring⟩ := hM
    refine ⟨by show 2 ≤ sizeLine; decide, fun p6 n6 => ?_⟩
    have f6 : H p6 = none := o5.free (R4.ne n6) n6
    refine ⟨.ref r, rfl, r, 2, rfl, R4.new n6, by decide, by decide, fun H7 g o7 R7 g0 g1 => ?_⟩
    obtain ⟨how, eh, hh⟩ := two_at (a := "all") (b := "some") g0 g1
    have o8 := (o5.mut f6).trans o7
    refine ⟨p6, _, g, .str how, rfl, rfl, .inl (.inl (o7 _ _ (R4.ne n6).symm upd_same)), eh, .str wh, rfl, ?_⟩
    refine ⟨.ref r, rfl, .str z, rfl, r, z, rfl, R7, hz, fun H9 cs o9 R9 scs lcs => ?_⟩
    have o10 := o8.trans o9
    refine ⟨by show 3 ≤ sizeLine; decide, fun gp ngp => ?_⟩
    have fg : H gp = none := o10.free (R9.ne ngp) ngp
    have R10 := R9.new (o := .tup [.str how, .str wh, .str ⟨cs.toArray⟩]) ngp
    have e10 : (upd H9 gp (.tup [.str how, .str wh, .str ⟨cs.toArray⟩])) gp = some (.tup [.str how, .str wh, .str ⟨cs.toArray⟩]) := upd_same
    have o11 := o10.mut (o := .tup [.str how, .str wh, .str ⟨cs.toArray⟩]) fg
    generalize upd H9 gp (.tup [.str how, .str wh, .str ⟨cs.toArray⟩]) = H10 at R10 e10 o11
    refine ⟨.str (sg x), rfl, .str (sg y), rfl, .ref gp, rfl, .ref gp, rfl, by show 3 ≤ sizeLine; decide, fun p11 n11 => ?_⟩
    have f11 : H p11 = none := o11.free (R10.ne n11) n11
    have R11 := R10.new (o := .lst [.non, .ref gp, .ref gp]) n11
    refine ⟨.ref r, rfl, r, 3, rfl, R11, by decide, by decide, fun H12 g o12 R12 g0 g1 => ?_⟩
    have o13 := (o11.mut f11).trans o12
    have e12 : H12 gp = some (.tup [.str how, .str wh, .str ⟨cs.toArray⟩]) := o12 _ _ (R11.neT ((same_new n11) _ _ e10)) ((same_new n11) _ _ e10)
    have ok : ∀ G, some (⟨how, wh, cs⟩ : Grd) = some G → G.Ok z sh := fun G e => by
      cases e
      exact ⟨hh, hw, hring, fun c hc => scs.subset hc, ⟨lcs, Nat.le_trans scs.length_le (by rw [Array.length_toList]; exact Nat.le_trans hz.five (by decide))⟩, hz.rise.sublist scs⟩
    obtain ⟨v, gg, ev, hv, hgg⟩ : ∃ v gg, atI [V.non, V.ref gp, V.ref gp] g = some v ∧ GrdAt H12 v gg ∧ ∀ G, gg = some G → G.Ok z sh := by
      have : g = 0 ∨ g = 1 ∨ g = 2 := by omega
      rcases this with rfl | rfl | rfl
      · exact ⟨.non, none, rfl, rfl, fun _ h => nomatch h⟩
      · exact ⟨.ref gp, some ⟨how, wh, cs⟩, rfl, ⟨gp, rfl, e12⟩, ok⟩
      · exact ⟨.ref gp, some ⟨how, wh, cs⟩, rfl, ⟨gp, rfl, e12⟩, ok⟩
    refine ⟨p11, _, g, v, rfl, rfl, .inl (.inl (o12 _ _ (R10.ne n11).symm upd_same)), ev, by show 4 ≤ sizeLine; decide, fun p n5 => ?_⟩
    exact q _ p (.one x y gg) (o13.mut (o13.free (R12.ne n5) n5)) (R12.new n5) ⟨v, upd_same, hv.mono (Tups.new n5)⟩ ⟨hx, hy, hgg⟩ ⟨n0, n1⟩
end
end LH

namespace LH
open PySem PySem.Spec PyProof.Rows L2
/-! ### machines in the heap -/
structure Mach where
  z : Str
  rows : List (List Nat)
  ends : List Nat
structure Mach.Ok (M : Mach) : Prop where
  let_ : IsLet M.z
  many : 1 ≤ M.rows.length
  row : ∀ r ∈ M.rows, r.length = M.z.length ∧ ∀ t ∈ r, t < M.rows.length
  endl : ∀ e ∈ M.ends, e < M.rows.length
  rise : M.ends.Pairwise (· < ·)
def RowsAt (H : Hp) (as : List Addr) (rows : List (List Nat)) : Prop := as.length = rows.length ∧ ∀ (i : Nat) (a : Addr) (row : List Nat), as[i]? = some a → rows[i]? = some row → H a = some (.tup (vi row))
def MachAt (H : Hp) (p : Addr) (M : Mach) : Prop := ∃ t e as, H p = some (.tup [.str M.z, .ref t, .ref e]) ∧ H t = some (.tup (vr as)) ∧ RowsAt H as M.rows ∧ H e = some (.tup (vi M.ends))
theorem RowsAt.mono {H H' : Hp} {as : List Addr} {rows : List (List Nat)} (t : Tups H H') (h : RowsAt H as rows) : RowsAt H' as rows := ⟨h.1, fun i a row x y => t _ _ (h.2 i a row x y)⟩
theorem MachAt.mono {H H' : Hp} {p : Addr} {M : Mach} (t : Tups H H') (h : MachAt H p M) : MachAt H' p M := by
  obtain ⟨a, b, c, h1, h2, h3, h4⟩ := h
  exact ⟨a, b, c, t _ _ h1, t _ _ h2, h3.mono t, t _ _ h4⟩
theorem RowsAt.snoc {H : Hp} {as : List Addr} {rows : List (List Nat)} {a : Addr} {row : List Nat} (h : RowsAt H as rows) (ha : H a = some (.tup (vi row))) : RowsAt H (as ++ [a]) (rows ++ [row]) := by
  refine ⟨by rw [List.length_append, List.length_append, h.1]; rfl, fun i b r x y => ?_⟩
  by_cases hi : i < as.length
  · rw [List.getElem?_append_left hi] at x
    rw [List.getElem?_append_left (by rw [← h.1]; exact hi)] at y
    exact h.2 i b r x y
  · rw [List.getElem?_append_right (by omega)] at x
    rw [List.getElem?_append_right (by rw [← h.1]; omega), ← h.1] at y
    have e : i - as.length = 0 := by
      cases q : i - as.length with
      | zero => rfl
      | succ k =>
        rw [q] at x
        simp at x
    rw [e] at x y
    cases x
    cases y
    exact ha
section
variable {P : Program} {w : World} {K : PySem.W.Frag} {mg : Str → Option Value} {base : Heap}
end
end LH

namespace LH
open PySem PySem.Spec PyProof.Rows L2
/-! ### what a machine has -/
def Mach.step (M : Mach) (s c : Nat) : Nat := (M.rows.getD s []).getD (M.z.cps.toList.idxOf c) 0
def Mach.run (M : Mach) (cs : List Nat) : Nat := cs.foldl M.step 0
def Mach.has (M : Mach) (cs : List Nat) : Bool := decide (M.run cs ∈ M.ends)
theorem inV_vi (n : Nat) : ∀ ns : List Nat, inV (.int (n : Int)) (vi ns) = decide (n ∈ ns)
  | [] => rfl
  | a :: r => by
    show (((a : Int) == (n : Int)) || inV (.int (n : Int)) (vi r)) = _
    rw [inV_vi n r]
    by_cases e : a = n
    · subst e
      simp
    · have e1 : ((a : Int) == (n : Int)) = false := beq_eq_false_iff_ne.mpr (by omega)
      have e2 : ¬ n = a := fun q => e q.symm
      rw [e1]
      simp [e2]
theorem flat_vi : ∀ ns : List Nat, (vi ns).all flatV = true
  | [] => rfl
  | _ :: r => flat_vi r
theorem idx_lt {z : Str} {c : Nat} (h : c ∈ z.cps.toList) : z.cps.toList.idxOf c < z.length := by
  have := List.idxOf_lt_length_iff.mpr h
  rw [Array.length_toList] at this
  exact this
theorem Mach.Ok.row_at {M : Mach} (k : M.Ok) {s : Nat} (h : s < M.rows.length) : ∃ row, M.rows[s]? = some row ∧ M.rows.getD s [] = row ∧ row.length = M.z.length ∧ ∀ t ∈ row, t < M.rows.length := by
  refine ⟨M.rows[s], List.getElem?_eq_getElem h, ?_, k.row _ (List.getElem_mem h)⟩
  rw [List.getD_eq_getElem?_getD, List.getElem?_eq_getElem h]
  rfl
theorem Mach.Ok.step_at {M : Mach} (k : M.Ok) {s c : Nat} (h : s < M.rows.length) (hc : c ∈ M.z.cps.toList) : ∃ row, M.rows[s]? = some row ∧ row[M.z.cps.toList.idxOf c]? = some (M.step s c) ∧ M.step s c < M.rows.length := by
  obtain ⟨row, e, g, l, t⟩ := k.row_at h
  have hi : M.z.cps.toList.idxOf c < row.length := by
    rw [l]
    exact idx_lt hc
  have es : M.step s c = row[M.z.cps.toList.idxOf c] := by
    unfold Mach.step
    rw [g, List.getD_eq_getElem?_getD, List.getElem?_eq_getElem hi]
    rfl
  refine ⟨row, e, ?_, ?_⟩
  · rw [es, List.getElem?_eq_getElem hi]
  · rw [es]
    exact t _ (List.getElem_mem hi)
theorem Mach.Ok.run_lt {M : Mach} (k : M.Ok) : ∀ (cs : List Nat) (s : Nat), s < M.rows.length → (∀ c ∈ cs, c ∈ M.z.cps.toList) → cs.foldl M.step s < M.rows.length
  | [], _, h, _ => h
  | c :: r, s, h, hc => by
    obtain ⟨_, _, _, q⟩ := k.step_at h (hc c (List.mem_cons_self ..))
    exact Mach.Ok.run_lt k r _ q fun d hd => hc d (List.mem_cons_of_mem _ hd)
theorem run_snoc (M : Mach) {cs : List Nat} {i c : Nat} (h : cs[i]? = some c) : M.run (cs.take (i + 1)) = M.step (M.run (cs.take i)) c := by
  rw [List.take_add_one, h]
  unfold Mach.run
  rw [List.foldl_append]
  rfl
theorem RowsAt.get {H : Hp} {as : List Addr} {rows : List (List Nat)} {s : Nat} {row : List Nat} (h : RowsAt H as rows) (e : rows[s]? = some row) : ∃ a, as[s]? = some a ∧ (vr as)[s]? = some (.ref a) ∧ H a = some (.tup (vi row)) := by
  have hs : s < as.length := by
    rw [h.1]
    exact (List.getElem?_eq_some_iff.mp e).1
  refine ⟨as[s], List.getElem?_eq_getElem hs, ?_, h.2 s _ _ (List.getElem?_eq_getElem hs) e⟩
  rw [List.getElem?_map, List.getElem?_eq_getElem hs]
  rfl
end LH

namespace LH
open PySem PySem.Spec PyProof.Rows L2
theorem iteT' {B : Bool} {A C : Prop} (e : B = true) (h : A) : if B = true then A else C := by
  rw [if_pos e]
  exact h
theorem iteF' {B : Bool} {A C : Prop} (e : B = false) (h : C) : if B = true then A else C := by
  rw [e]
  exact h
theorem find_none {z : Str} {c : Nat} (h : ¬ c ∈ z.cps.toList) : Txt.find z ⟨#[c]⟩ = -1 := by
  rcases StrLaws.occ_head z ⟨#[c]⟩ 1 (Nat.le_refl _) with ⟨e, _⟩ | ⟨i, r, e, ha, _⟩
  · unfold Txt.find
    rw [e]
  · exact absurd (List.mem_of_getElem? ((StrLaws.subAt_one z c i).mp ha)) h
section
variable {P : Program} {w : World} {K : PySem.W.Frag} {mg : Str → Option Value} {base : Heap}
def sp_has : Sp := fun vs H Q _ => ∃ (m : Addr) (word : Str) (M : Mach), vs = [.ref m, .str word] ∧ MachAt H m M ∧ M.Ok ∧ ((∀ c ∈ word.cps.toList, c ∈ M.z.cps.toList) → Q (.bl (M.has word.cps.toList)) H) ∧ ((¬ ∀ c ∈ word.cps.toList, c ∈ M.z.cps.toList) → Q (.bl false) H)
theorem ok_has (T : TX K mg) : FnOk P w K mg base CX0 1 T.a_has T.fd_has ["machine", "word"] sp_has := by
  refine T.F_has.ok sc_has (fun vs H Q E h => ?_) (fun cdv A outer s H vs Q E hr h => ?_)
  · obtain ⟨m, word, M, rfl, _⟩ := h
    rfl
  · obtain ⟨m, word, M, rfl, ⟨t, e, as, h1, h2, h3, h4⟩, k, q, qn⟩ := h
    refine ⟨_, (pss_cons (ps_asg (pv 0) (pg_tupK (n := 3) K rfl (by rfl) (pgs_cons (pg_name (i := 2) sc_has.nd rfl (Or.inl rfl)) (pgs_cons (pg_name (i := 3) sc_has.nd rfl (Or.inl rfl)) (pgs_cons (pg_name (i := 4) sc_has.nd rfl (Or.inl rfl)) pgs_nil)))))
      (pss_cons (ps_set (i := 5) sc_has.nd rfl (Or.inl rfl) pe_int)
      (pss_cons (ps_for PassesOwn.never rfl (pi_str (pv 1)) (pg_name (i := 6) sc_has.nd rfl (Or.inl rfl))
        (pss_cons (ps_set (i := 7) sc_has.nd rfl (Or.inl rfl) (pe_m1 PySem.F.slot_str_find PySem.F.type_str_find mt_find (pv 2) (pv 6)))
          (pss_cons (ps_if (pt_cmpR op_lt (pv 7) pe_int (nomark _))
            (pss_one (ps_ret pe_bl))
            pss_nil)
          (pss_one (ps_set (i := 5) sc_has.nd rfl (Or.inl rfl) (pe_ix (ix_tupK K rfl) (pe_ix (ix_tupK K rfl) (pv 3) (pv 5) (fun _ _ => rfl)) (pv 7) (fun _ _ => rfl)))))))
      (pss_one (ps_ret (pe_cmpR (op_in_seqK K rfl) (pv 5) (pv 4) (by rfl))))))), ?_⟩
    refine ⟨.ref m, rfl, m, [.str M.z, .ref t, .ref e], rfl, .inl (.inl h1), rfl, .str M.z, _, rfl, .ref t, _, rfl, .ref e, [], rfl, rfl, ?_⟩
    refine ⟨.str word, rfl, word, rfl, ?_⟩
    refine for_it walk_str (fun i σ H' => H' = H ∧ (∀ d ∈ word.cps.toList.take i, d ∈ M.z.cps.toList) ∧ ∃ y6 y7, σ = [some (.ref m), some (.str word), some (.str M.z), some (.ref t), some (.ref e), some (.int (M.run (word.cps.toList.take i) : Nat)), y6, y7]) ⟨rfl, (fun _ h => nomatch h), none, none, rfl⟩ (fun _ _ _ _ _ => trivial) (fun i x σ H1 H1' hi hW hY => ?_) (fun σ H1 hW => ?_)
    · obtain ⟨rfl, hov, y6, y7, rfl⟩ := hW
      obtain ⟨rfl, c, hc, rfl⟩ := hY
      have hc' : word.cps.toList[i]? = some c := by
        rw [Array.getElem?_toList]
        exact hc
      have hs : M.run (word.cps.toList.take i) < M.rows.length := k.run_lt _ _ k.many fun d hd => hov d hd
      refine ⟨.str M.z, rfl, ⟨_, rfl⟩, .str (sg c), rfl, M.z, sg c, rfl, rfl, ?_⟩
      by_cases hcz : c ∈ M.z.cps.toList
      · obtain ⟨row, er, ei, _⟩ := k.step_at hs hcz
        obtain ⟨a, _, ea, ha⟩ := h3.get er
        rw [find_sign hcz]
        refine ⟨.int (M.z.cps.toList.idxOf c : Nat), rfl, _, 0, rfl, rfl, _, rfl, ite2 (fun z => ?_) (fun z => ?_)⟩
        · have := of_decide_eq_true z
          omega
        · refine ⟨.ref t, rfl, .int (M.run (word.cps.toList.take i) : Nat), rfl, t, _, _, _, rfl, rfl, .inl (.inl h2), atI_nat ea, .int (M.z.cps.toList.idxOf c : Nat), rfl, a, _, _, .int (M.step (M.run (word.cps.toList.take i)) c : Nat), rfl, rfl, .inl (.inl ha), atI_nat ?_, rfl, ?_, some (.str (sg c)), some (.int (M.z.cps.toList.idxOf c : Nat)), ?_⟩
          · rw [List.getElem?_map, ei]
            rfl
          · intro d hd
            rw [List.take_add_one, hc'] at hd
            rcases List.mem_append.mp hd with hd | hd
            · exact hov d hd
            · have hd : d ∈ [c] := hd
              rw [List.mem_singleton.mp hd]
              exact hcz
          · rw [run_snoc M hc']
            rfl
      · rw [find_none hcz]
        refine ⟨.int (-1), rfl, _, 0, rfl, rfl, _, rfl, iteT' (by decide) (qn fun h => hcz (h c (List.mem_of_getElem? hc')))⟩
    · obtain ⟨rfl, hov, y6, y7, rfl⟩ := hW
      have et : word.cps.toList.take word.cps.size = word.cps.toList := List.take_of_length_le (by rw [Array.length_toList]; exact Nat.le_refl _)
      rw [et] at hov ⊢
      refine ⟨.int (M.run word.cps.toList : Nat), rfl, .ref e, rfl, e, _, rfl, .inr (.inl (.inl h4)), rfl, flat_vi _, ?_⟩
      show Q (.bl (inV _ _)) _
      rw [inV_vi]
      exact q hov
end
end LH

namespace LH
open PySem PySem.Spec PyProof.Rows L2
/-! ### name = {k: v for ..}; walks of pairs by a K of their own -/
abbrev InBlk (X : Cx) (scope : Scope) (J : Cx → Prop) : Prop := ∀ (s : Shared) (H : Hp) (C : Addr) (cl : List (Str × Addr)) (fp : List Addr), J (X.blk s H scope (compEnvC scope cl C X.env) fp)
section
variable {X : Cx}
theorem ps_setDc {i : Nat} {y : Str} {py dp sp : Pos} {kx vx tg it : Expr} {ifs : List Expr} {scope : Scope} {own : List (Str × Nat)} {wi : TI} {g : TG} {tt : TT} {tk tv : TE} (calm : X.calm = true) (nd : X.N.Nodup) (hy : X.N[i]? = some y) (loc : X.env.scope.names.lookup y = some .local)
    (sw : swapsWith (.DictComp kx vx [⟨tg, it, ifs, 0⟩] scope dp) (some (.Name y py)) sp.line X.env = pure true) (hi : PI X tg it wi) (ok : BlkOk X.N X.env.scope scope own) (hg : InBlk X scope fun Y => PG Y tg g) (ht : InBlk X scope fun Y => PTs Y ifs tt) (hk : InBlk X scope fun Y => PE Y kx tk) (hv : InBlk X scope fun Y => PE Y vx tv)
    (hf : ∀ x, foldedSetIterable it X.env x = pure x := by intro _; rfl) : PS X (.Assign [.Name y py] (.DictComp kx vx [⟨tg, it, ifs, 0⟩] scope dp) sp) (tAsg (tDc wi g tt tk tv (own.map (·.2))) (gName i)) := by
  refine ⟨fun pins s σ H D I q0 => ?_⟩
  have q1 : tDc wi g tt tk tv (own.map (·.2)) σ H (fun x H1 => gName i x σ H1 D.nx) := q0
  rw [exec_Assign_Name_used _ _ _ _ sw]
  refine wpAny_bind (wpAny_standAt (wpAny_bind ?_))
  show wpAny _ X.A (do let _ ← comprehension (.DictComp kx vx [⟨tg, it, ifs, 0⟩] scope dp) scope X.env (firstIterPos [⟨tg, it, ifs, 0⟩] dp) newDict false (eval it X.env) (some (assign (.Name y py) X.env))) _ _ s
  refine wpAny_bind (thn (dc_core (Qf := fun _ s' => SP X pins D .next s') calm nd I hi ok hg ht hk hv hf q1 fun L C s' m H' I' q hn f => ?_) fun _ s' z => wpAny_pure (wpAny_pure z))
  show wpAny _ _ (assign (.Name y py) X.env (V.ref L |> fun _ => Value.ref L)) _ _ _
  refine wpAny_assign_Name (store_ok2 (v := V.ref L) I' nd hy (.inl loc) rfl (fun s2 I2 st => ?_) (.inr loc))
  obtain ⟨a, sb, ha⟩ := st
  have na : C ≠ a := by rcases ha with z | z; (· rw [z]; exact f.2.1); (· exact fun e => f.2.2.2.2.1 y a z e.symm)
  exact ⟨m, hn.sameBut sb na, fun h3 sb3 => ⟨_, H', I2.turned (t' := s2.toks) (fun b o hb e => (sb3.2 b hb).trans e) f.1 f.2.1 f.2.2.2.1 f.2.2.2.2.1 f.2.2.2.2.2, q⟩⟩
theorem sw_trueD {kx vx : Expr} {gs : List Comprehension} {scope : Scope} {pos py : Pos} {y : Str} {l : Nat} {env : Env} (hk : env.scope.kind = .function) (hy : env.scope.names.lookup y = some .local) (hl : (py.line == pos.line) = true) (ha : (scope.names.any fun (n, k) => n == y && (k == .local || k == .cell)) = false) :
    swapsWith (.DictComp kx vx gs scope pos) (some (.Name y py)) l env = pure true := by
  have b : env.blockKind = .function := by rw [Env.blockKind, hk]; rfl
  have k : env.kindOf y = some .local := hy
  unfold swapsWith
  simp only [b, k, ha, Expr.pos, hl]
  rfl
variable (K : PySem.W.Frag) (hK : X.K = K)
include hK
theorem pi_enumK {e : Expr} {ta : TA} {p pos tp : Pos} {elts : List Expr} {kk : Nat} (hg : Gl X "enumerate") (hm : X.mg "enumerate" = none) (ha : PA X [e] ta) (hs : starEach [e] X.env = [(false, eval e X.env)] := by rfl) : PI X (.Tuple elts kk tp) (.Call (.Name "enumerate" p) [e] [] pos) (iEnum K ta) := by subst hK; exact pi_enum hg hm ha hs
end
/-! ### walks of dicts of whole numbers -/
abbrev dk (g : List Nat) : List (Key × V) := g.map fun (s : Nat) => (Sum.inl (s : Int), V.bl true)
theorem valV_dk (s : Nat) : ∀ g : List Nat, valV (dk g) (Sum.inl (s : Int) : Key) = if s ∈ g then some (.bl true) else none
  | [] => rfl
  | a :: r => by
    show valV ((Sum.inl (a : Int), V.bl true) :: dk r) (Sum.inl (s : Int) : Key) = _
    by_cases e : a = s
    · subst e
      rw [valV_pos rfl, if_pos (List.mem_cons_self ..)]
    · rw [valV_neg (fun q => e (by have := Sum.inl.inj q; omega)), valV_dk s r]
      have : (s ∈ a :: r) ↔ s ∈ r := ⟨fun h => by
        rcases List.mem_cons.mp h with z | z
        · exact absurd z.symm e
        · exact z, fun h => List.mem_cons_of_mem _ h⟩
      by_cases h : s ∈ r
      · rw [if_pos h, if_pos (this.mpr h)]
      · rw [if_neg h, if_neg (fun z => h (this.mp z))]
theorem putK_dk {s : Nat} {g : List Nat} (h : s ∉ g) : putK (dk g) (Sum.inl (s : Int) : Key) (.bl true) = dk (g ++ [s]) := by
  unfold putK
  rw [valV_any, valV_dk, if_neg h, if_neg (by decide)]
  show _ = List.map _ (g ++ [s])
  rw [List.map_append]
  rfl
theorem putK_dk_in {s : Nat} {g : List Nat} (h : s ∈ g) : putK (dk g) (Sum.inl (s : Int) : Key) (.bl true) = dk g := by
  unfold putK
  rw [valV_any, valV_dk, if_pos h, if_pos (by decide)]
  show List.map _ (List.map _ g) = List.map _ g
  rw [List.map_map]
  refine List.map_congr_left fun a _ => ?_
  show (if (Sum.inl (a : Int) : Key) = Sum.inl (s : Int) then ((Sum.inl (a : Int) : Key), V.bl true) else (Sum.inl (a : Int), V.bl true)) = _
  split <;> rfl
theorem dropK_dk (s : Nat) (g : List Nat) : dropK (dk g) (Sum.inl (s : Int) : Key) = dk (g.filter fun a => decide (a ≠ s)) := by
  unfold dropK
  show List.filter _ (List.map _ g) = List.map _ (g.filter _)
  rw [List.filter_map]
  congr 1
  refine List.filter_congr fun a _ => ?_
  show decide ((Sum.inl (a : Int) : Key) ≠ Sum.inl (s : Int)) = decide (a ≠ s)
  by_cases e : a = s
  · subst e
    simp
  · have h2 : ¬ ((Sum.inl (a : Int) : Key) = Sum.inl (s : Int)) := fun q => e (by have := Sum.inl.inj q; omega)
    simp only [ne_eq, h2, e, not_false_eq_true, decide_true]
theorem keys_dk (g : List Nat) : (dk g).map (fun kv => kV kv.1) = vi g := by
  show List.map _ (List.map _ g) = _
  rw [List.map_map]
  rfl
theorem dk_get {g : List Nat} {i : Nat} {k : Key} {v : V} (h : (dk g)[i]? = some (k, v)) : ∃ s, g[i]? = some s ∧ k = Sum.inl (s : Int) ∧ v = .bl true := by
  rw [List.getElem?_map] at h
  cases e : g[i]? with
  | none =>
    rw [e] at h
    cases h
  | some s =>
    rw [e] at h
    cases h
    exact ⟨s, rfl, rfl, rfl⟩
/-- a dict comprehension over anything that walks: Pv by the turn and the heap (the new dict at D within) -/
theorem dc_it {J : It} {n : Nat} {G : Hp → Prop} {Y : Nat → Hp → V → Hp → Prop} (w : Walk J n G Y) {g : TG} {tt : TT} {tk tv : TE} {vs : List Nat} {σ : L2.St} {H1 : Hp} {D : Addr} {Qd : Hp → Prop} (Pv : Nat → Hp → Prop) (p0 : Pv 0 (upd H1 D (.dK []))) (pG : ∀ i H, i ≤ n → Pv i H → G H)
    (turn : ∀ i x H H', i < n → Pv i H → Y i H x H' → g x (wipe σ vs) H' fun σ2 H2 => wipe σ2 vs = wipe σ vs ∧ tt σ2 H2 fun b H3 => if b = true then tk σ2 H3 fun y H4 => tv σ2 H4 fun z H5 => ∃ kvs k, y = kV k ∧ H5 D = some (.dK kvs) ∧ kvs.length < sizeLine ∧ Pv (i + 1) (upd H5 D (.dK (putK kvs k z))) else Pv (i + 1) H3) (last : ∀ H, Pv n H → Qd H) :
    ∃ W : Nat → Nat → Hp → Prop, (∃ m, W 0 m (upd H1 D (.dK []))) ∧ ∀ i m H, W i m H → (J.stop i H ∧ Qd H) ∨ (J.go i H ∧ ∃ Nx : Hp → Prop, (∀ H', Nx H' → ∃ m', m' < m ∧ W (i + 1) m' H') ∧ ∀ x H', J.yld i H x H' → g x (wipe σ vs) H' fun σ2 H2 => wipe σ2 vs = wipe σ vs ∧ tt σ2 H2 fun b H3 =>
      if b = true then tk σ2 H3 fun y H4 => tv σ2 H4 fun z H5 => ∃ kvs k, y = kV k ∧ H5 D = some (.dK kvs) ∧ kvs.length < sizeLine ∧ Nx (upd H5 D (.dK (putK kvs k z))) else Nx H3) := by
  refine ⟨fun i m H => m + i = n ∧ Pv i H, ⟨n, rfl, p0⟩, fun i m H z => ?_⟩
  obtain ⟨e, p⟩ := z
  have q := pG i H (by omega) p
  cases m with
  | zero =>
    have e' : i = n := by omega
    subst e'
    exact Or.inl ⟨w.stops H q, last H p⟩
  | succ m => exact Or.inr ⟨w.goes i H (by omega) q, Pv (i + 1), fun H' p' => ⟨m, Nat.lt_succ_self m, by omega, p'⟩, fun x H' y => turn i x H H' (by omega) p (w.yields i H x H' (by omega) q y)⟩
/-! ### counting -/
theorem len_le_of_sub {α : Type} [DecidableEq α] : ∀ {xs ys : List α}, xs.Nodup → (∀ x ∈ xs, x ∈ ys) → xs.length ≤ ys.length
  | [], _, _, _ => Nat.zero_le _
  | x :: xs, ys, nd, h => by
    have hx := h x (List.mem_cons_self ..)
    have nd' := List.nodup_cons.mp nd
    have ih := len_le_of_sub (xs := xs) (ys := ys.erase x) nd'.2 fun y hy => by
      have hne : y ≠ x := fun e => nd'.1 (e ▸ hy)
      exact (List.mem_erase_of_ne hne).mpr (h y (List.mem_cons_of_mem _ hy))
    rw [List.length_erase_of_mem hx] at ih
    have := List.length_pos_of_mem hx
    show xs.length + 1 ≤ ys.length
    omega
theorem all_of_len {xs ys : List Nat} (nx : xs.Nodup) (h : ∀ x ∈ xs, x ∈ ys) (l : ys.length ≤ xs.length) : ∀ y ∈ ys, y ∈ xs := fun y hy => by
  by_cases q : y ∈ xs
  · exact q
  · have := len_le_of_sub (xs := y :: xs) (ys := ys) (List.nodup_cons.mpr ⟨q, nx⟩) fun z hz => by
      rcases List.mem_cons.mp hz with rfl | hz
      · exact hy
      · exact h z hz
    have : xs.length + 1 ≤ ys.length := this
    omega
end LH

namespace LH
open PySem PySem.Spec PyProof.Rows L2 NdefX LamX
/-! ### captured cells, tracked: so that a made function may be handed on -/
def CellO (c : Addr) (o : Obj) : HO := .ext fun h => h.get? c = some o
structure CellsT (H : Hp) (cl : List (Str × Addr)) (fr : List Str) (ws : List (Option V)) : Prop where
  len : ws.length = fr.length
  inj : ∀ x y c, cl.lookup x = some c → cl.lookup y = some c → x = y
  all : ∀ y c, cl.lookup y = some c → ∃ o v, H c = some (CellO c o) ∧ o.data = .cell v
  has : ∀ (i : Nat) (y : Str), fr[i]? = some y → ∃ c, cl.lookup y = some c ∧ ∀ v, ws[i]? = some (some v) → ∃ o u, H c = some (CellO c o) ∧ o.data = .cell (some u) ∧ RelV v u
theorem CellsT.same {H H' : Hp} {cl : List (Str × Addr)} {fr : List Str} {ws : List (Option V)} (C : CellsT H cl fr ws) (e : ∀ b o, H b = some (CellO b o) → H' b = some (CellO b o)) : CellsT H' cl fr ws := by
  refine ⟨C.len, C.inj, fun y c h => ?_, fun i y h => ?_⟩
  · obtain ⟨o, v, a, b⟩ := C.all y c h
    exact ⟨o, v, e _ _ a, b⟩
  · obtain ⟨c, a, b⟩ := C.has i y h
    refine ⟨c, a, fun v hv => ?_⟩
    obtain ⟨o, u, x, z⟩ := b v hv
    exact ⟨o, u, e _ _ x, z⟩
abbrev inC (cl : List (Str × Addr)) (b : Addr) : Prop := ∃ y, cl.lookup y = some b
open Classical in
noncomputable def hide (S : Addr → Prop) (H : Hp) : Hp := fun b => if S b then none else H b
open Classical in
noncomputable def back (S : Addr → Prop) (H H' : Hp) : Hp := fun b => if S b then H b else H' b
section
variable {S : Addr → Prop} {H H' : Hp} {b : Addr}
theorem hide_in (h : S b) : hide S H b = none := by unfold hide; rw [if_pos h]
theorem hide_out (h : ¬ S b) : hide S H b = H b := by unfold hide; rw [if_neg h]
theorem hide_some {o : HO} (h : hide S H b = some o) : ¬ S b ∧ H b = some o := by
  by_cases z : S b
  · rw [hide_in z] at h
    cases h
  · rw [hide_out z] at h
    exact ⟨z, h⟩
theorem back_in (h : S b) : back S H H' b = H b := by unfold back; rw [if_pos h]
theorem back_out (h : ¬ S b) : back S H H' b = H' b := by unfold back; rw [if_neg h]
end
theorem cellO_at {P : Program} {w : World} {H : Hp} {h : Heap} {c : Addr} {o : Obj} (hok : HOk P w H h) (e : H c = some (CellO c o)) : h.get? c = some o := (hok c _ e).1
theorem cellO_ok {P : Program} {w : World} {H : Hp} {h : Heap} {c : Addr} {o : Obj} (e : h.get? c = some o) : ObjOk P w H h c (CellO c o) := ⟨e, ⟨o, e⟩, fun h1 h2 a k => k o a⟩
/-- what is hidden is no own dict, no tuple -/
theorem hok_hide {P : Program} {w : World} {S : Addr → Prop} {H : Hp} {h : Heap} (hok : HOk P w H h) (ext : ∀ b, S b → ∃ o, H b = some (CellO b o)) : HOk P w (hide S H) h := fun a o e => by
  obtain ⟨_, e⟩ := hide_some e
  refine (hok a o e).stay (fun _ _ _ q => q) (fun b q => ?_) fun b xs q => ?_
  · rw [hide_out (fun z => by
      obtain ⟨o, y⟩ := ext b z
      rw [q] at y
      cases y)]
    exact q
  · rw [hide_out (fun z => by
      obtain ⟨o, y⟩ := ext b z
      rw [q] at y
      cases y)]
    exact q
section
variable {P : Program} {w : World} {K : PySem.W.Frag} {mg : Str → Option Value} {base : Heap} {k : Nat} {f : Addr} {F : NF} {ps fr : List Str} {sp : List (Option V) → Sp} {A : Around} {outer : List Env} {s : Shared} {H : Hp} {us : List Value} {vs : List V} {ws : List (Option V)} {Q : VK} {E : XK}
/-- a made function called where its cells are tracked -/
theorem run_cell (Fn : NOk P w K mg base CX0 k f F ps fr sp) (hr : Room k A) (e0 : Env0 P w K mg base A outer s H) (hf : H f = some (FnO f F)) (hc : H F.c = some (CodeO F.c F.qual)) (C : CellsT H F.cl fr ws) (r : Vals vs us) (q : sp ws vs (hide (inC F.cl) H) (fun v H' => (∀ b, inC F.cl b → H' b = none) → Q v (back (inC F.cl) H H')) E) :
    codeAny (model P w) A (.call (.ref f) ⟨us, []⟩) (CR CX0 outer P w H s Q E) s := by
  have ext : ∀ b, inC F.cl b → ∃ o, H b = some (CellO b o) := fun b ⟨y, hy⟩ => by
    obtain ⟨o, v, z, _⟩ := C.all y b hy
    exact ⟨o, z⟩
  have cellD : ∀ b, inC F.cl b → ∃ o v, H b = some (CellO b o) ∧ s.heap.get? b = some o ∧ o.data = .cell v := fun b ⟨y, hy⟩ => by
    obtain ⟨o, v, z, d⟩ := C.all y b hy
    exact ⟨o, v, z, cellO_at e0.hok z, d⟩
  have nf : ¬ inC F.cl f := fun z => by
    obtain ⟨o, v, _, g, d⟩ := cellD f z
    obtain ⟨od, sl, doc, pm, ctv, ho⟩ := fnO_at e0.hok hf
    rw [ho] at g
    cases g
    cases d
  have nc : ¬ inC F.cl F.c := fun z => by
    obtain ⟨o, v, _, g, d⟩ := cellD _ z
    have : HOk P w H s.heap := e0.hok
    obtain ⟨oc, vs', t, h1, h2, _⟩ := (this _ _ hc).1
    rw [h1] at g
    cases g
    rw [h2] at d
    cases d
  have e1 : Env0 P w K mg base A outer s (hide (inC F.cl) H) := ⟨e0.frames, e0.mod, fun b o hb => ⟨(e0.bs b o hb).1, by
      by_cases z : inC F.cl b
      · exact hide_in z
      · rw [hide_out z]; exact (e0.bs b o hb).2⟩, e0.bsz, e0.funs, fun b hb => by
      by_cases z : inC F.cl b
      · exact hide_in z
      · rw [hide_out z]; exact e0.frf b hb, hok_hide e0.hok ext, e0.bare⟩
  have CA : CellsAt F.cl fr ws s.heap (hide (inC F.cl) H) := by
    refine ⟨C.len, fun y c hy => ⟨hide_in ⟨y, hy⟩, ?_⟩, C.inj, fun i y hy => ?_⟩
    · obtain ⟨o, v, _, g, d⟩ := cellD c ⟨y, hy⟩
      exact ⟨v, o, g, d⟩
    · obtain ⟨c, hc, hv⟩ := C.has i y hy
      refine ⟨c, hc, fun v ev => ?_⟩
      obtain ⟨o, u, z, d, rv⟩ := hv v ev
      exact ⟨u, rv, o, cellO_at e0.hok z, d⟩
  refine codeAny_mono (Fn.run A outer s (hide (inC F.cl) H) us vs ws _ E hr e1 (by rw [hide_out nf]; exact hf) (by rw [hide_out nc]; exact hc) CA r q) fun res s' hq => ?_
  cases res with
  | error e => exact hq
  | ok fl =>
    cases fl with
    | next => exact hq
    | brk => exact hq
    | cont => exact hq
    | ret u =>
      obtain ⟨v, H1, os, bare, un, hok, rv, q1⟩ := hq
      have out : ∀ b, H b = none → ¬ inC F.cl b := fun b n z => by
        obtain ⟨o, y⟩ := ext b z
        rw [n] at y
        cases y
      have outx : ∀ b x, H b = some x → (∀ o, x ≠ CellO b o) → ¬ inC F.cl b := fun b x e n z => by
        obtain ⟨o, y⟩ := ext b z
        rw [e] at y
        exact n o (Option.some.inj y)
      have h1n : ∀ b, inC F.cl b → H1 b = none := fun b z => by
        obtain ⟨o, v, _, g, _⟩ := cellD b z
        exact un.free b o g (hide_in z) (by simp)
      refine ⟨v, back (inC F.cl) H H1, os, bare, ⟨fun b o e n hb hx => ?_, fun b o e n hb hx => ?_, fun b o e n hx => ?_, un.there, fun b xs e => ?_, fun b o u e => ?_, fun b ps e => ?_⟩, fun a o e => ?_, rv, q1 h1n⟩
      · exact un.keep b o e (by rw [hide_out (out b n)]; exact n) hb hx
      · exact un.slot b o e (by rw [hide_out (out b n)]; exact n) hb hx
      · rw [back_out (out b n)]
        exact un.free b o e (by rw [hide_out (out b n)]; exact n) hx
      · have z := outx b _ e (by intro o y; cases y)
        rw [back_out z]
        exact un.tups b xs (by rw [hide_out z]; exact e)
      · have z := outx b _ e (by intro o y; cases y)
        rw [back_out z]
        exact un.frzs b o u (by rw [hide_out z]; exact e)
      · have z := outx b _ e (by intro o y; cases y)
        rw [back_out z]
        exact un.tbls b ps (by rw [hide_out z]; exact e)
      · by_cases z : inC F.cl a
        · rw [back_in z] at e
          obtain ⟨o', v', y, g, _⟩ := cellD a z
          rw [y] at e
          cases e
          refine cellO_ok (un.keep a o' g (hide_in z) (fun hb => ?_) (by simp))
          have := e0.frf a hb
          rw [y] at this
          cases this
        · rw [back_out z] at e
          refine (hok a o e).stay (fun _ _ _ q => q) (fun b q => ?_) fun b xs q => ?_
          · rw [back_out (fun y => by rw [h1n b y] at q; cases q)]
            exact q
          · rw [back_out (fun y => by rw [h1n b y] at q; cases q)]
            exact q
end
open Classical in
/-- the cells laid open: each by the object that stands there -/
noncomputable def lay (S : Addr → Prop) (h : Heap) (H : Hp) : Hp := fun b => if S b then (h.get? b).map (CellO b) else H b
theorem lay_out {S : Addr → Prop} {h : Heap} {H : Hp} {b : Addr} (z : ¬ S b) : lay S h H b = H b := by unfold lay; rw [if_neg z]
theorem lay_in {S : Addr → Prop} {h : Heap} {H : Hp} {b : Addr} {o : Obj} (z : S b) (g : h.get? b = some o) : lay S h H b = some (CellO b o) := by unfold lay; rw [if_pos z, g]; rfl
section
variable {P : Program} {w : World} {K : PySem.W.Frag} {mg : Str → Option Value} {base : Heap} {k : Nat} {f : Addr} {fd : FuncData} {cl : List (Str × Addr)} {ps fr : List Str} {sp : Sp} {A : Around} {outer : List Env} {s : Shared} {H : Hp} {args : Args} {us : List Value} {vs : List V} {ws : List (Option V)} {Q : VK} {E : XK}
/-- a def called with the caller's cells tracked -/
theorem run_track (F : FnOk P w K mg base CX0 k f fd ps sp) (hr : Room k A) (e0 : Env0 P w K mg base A outer s H) (hb : BindsTo s fd args (ps.zip us)) (r : Vals vs us) (C : CellsAt cl fr ws s.heap H) (old : ∀ b, inC cl b → base.get? b = none ∧ b ∉ frs outer)
    (q : ∀ H2 : Hp, (∀ b, ¬ inC cl b → H2 b = H b) → CellsT H2 cl fr ws → sp vs H2 (fun v H' => (∀ b, inC cl b → H' b = H2 b) ∧ Q v (hide (inC cl) H')) E) : codeAny (model P w) A (.call (.ref f) args) (CR CX0 outer P w H s Q E) s := by
  have cellD : ∀ b, inC cl b → ∃ o v, H b = none ∧ s.heap.get? b = some o ∧ o.data = .cell v := fun b ⟨y, hy⟩ => by
    obtain ⟨n, v, o, g, d⟩ := C.all y b hy
    exact ⟨o, v, n, g, d⟩
  have CT : CellsT (lay (inC cl) s.heap H) cl fr ws := by
    refine ⟨C.len, C.inj, fun y c hy => ?_, fun i y hy => ?_⟩
    · obtain ⟨o, v, _, g, d⟩ := cellD c ⟨y, hy⟩
      exact ⟨o, v, lay_in ⟨y, hy⟩ g, d⟩
    · obtain ⟨c, hc, hv⟩ := C.has i y hy
      refine ⟨c, hc, fun v ev => ?_⟩
      obtain ⟨u, rv, o, g, d⟩ := hv v ev
      exact ⟨o, u, lay_in ⟨y, hc⟩ g, d, rv⟩
  have ext : ∀ b, inC cl b → ∃ o, lay (inC cl) s.heap H b = some (CellO b o) := fun b z => by
    obtain ⟨o, v, _, g, _⟩ := cellD b z
    exact ⟨o, lay_in z g⟩
  have hokL : HOk P w (lay (inC cl) s.heap H) s.heap := fun a o e => by
    by_cases z : inC cl a
    · obtain ⟨o', v, _, g, _⟩ := cellD a z
      rw [lay_in z g] at e
      cases e
      exact cellO_ok g
    · rw [lay_out z] at e
      refine (e0.hok a o e).stay (fun _ _ _ q => q) (fun b q => ?_) fun b xs q => ?_
      · rw [lay_out (fun y => by
          obtain ⟨_, _, n, _⟩ := cellD b y
          rw [n] at q
          cases q)]
        exact q
      · rw [lay_out (fun y => by
          obtain ⟨_, _, n, _⟩ := cellD b y
          rw [n] at q
          cases q)]
        exact q
  have e1 : Env0 P w K mg base A outer s (lay (inC cl) s.heap H) := ⟨e0.frames, e0.mod, fun b o hb' => ⟨(e0.bs b o hb').1, ?_⟩, e0.bsz, e0.funs, fun b hb' => ?_, hokL, e0.bare⟩
  · refine codeAny_mono (F.run A outer s (lay (inC cl) s.heap H) args us vs _ E hr e1 hb r (q _ (fun b z => lay_out z) CT)) fun res s' hq => ?_
    cases res with
    | error e => exact hq
    | ok fl =>
      cases fl with
      | next => exact hq
      | brk => exact hq
      | cont => exact hq
      | ret u =>
        obtain ⟨v, H1, os, bare, un, hok, rv, same, q1⟩ := hq
        have kept : ∀ b o, inC cl b → s.heap.get? b = some o → s'.heap.get? b = some o := fun b o z g => cellO_at hok ((same b z).trans (lay_in z g))
        have nin : ∀ b x, H b = some x → ¬ inC cl b := fun b x e z => by
          obtain ⟨_, _, n, _⟩ := cellD b z
          rw [n] at e
          cases e
        refine ⟨v, hide (inC cl) H1, os, bare, ⟨fun b o e n hb' hx => ?_, fun b o e n hb' hx => ?_, fun b o e n hx => ?_, un.there, fun b xs e => ?_, fun b o u e => ?_, fun b ps e => ?_⟩, hok_hide hok fun b z => ?_, rv, q1⟩
        · by_cases z : inC cl b
          · exact kept b o z e
          · exact un.keep b o e (by rw [lay_out z]; exact n) hb' hx
        · by_cases z : inC cl b
          · exact ⟨o.slots, kept b o z e⟩
          · exact un.slot b o e (by rw [lay_out z]; exact n) hb' hx
        · by_cases z : inC cl b
          · exact hide_in z
          · rw [hide_out z]
            exact un.free b o e (by rw [lay_out z]; exact n) hx
        · have z := nin b _ e
          rw [hide_out z]
          exact un.tups b xs (by rw [lay_out z]; exact e)
        · have z := nin b _ e
          rw [hide_out z]
          exact un.frzs b o u (by rw [lay_out z]; exact e)
        · have z := nin b _ e
          rw [hide_out z]
          exact un.tbls b ps (by rw [lay_out z]; exact e)
        · obtain ⟨o, y⟩ := ext b z
          exact ⟨o, (same b z).trans y⟩
  · have z : ¬ inC cl b := fun y => by
      rw [(old b y).1] at hb'
      cases hb'
    rw [lay_out z]
    exact (e0.bs b o hb').2
  · have z : ¬ inC cl b := fun y => (old b y).2 hb'
    rw [lay_out z]
    exact e0.frf b hb'
end
/-! ### the rules over them -/
/-- a function value, by what its call is worth -/
structure Callable (P : Program) (w : World) (K : PySem.W.Frag) (mg : Str → Option Value) (base : Heap) (k : Nat) (f : Addr) (sp : Sp) : Prop where
  run : ∀ (A : Around) (outer : List Env) (s : Shared) (H : Hp) (us : List Value) (vs : List V) (Q : VK) (E : XK), Room k A → Env0 P w K mg base A outer s H → Vals vs us → sp vs H Q E → codeAny (model P w) A (.call (.ref f) ⟨us, []⟩) (CR CX0 outer P w H s Q E) s
theorem Callable.of {P : Program} {w : World} {K : PySem.W.Frag} {mg : Str → Option Value} {base : Heap} {k : Nat} {f : Addr} {F : NF} {ps fr : List Str} {sp : List (Option V) → Sp} (Fn : NOk P w K mg base CX0 k f F ps fr sp) :
    Callable P w K mg base k f (fun vs H Q E => ∃ ws, H f = some (FnO f F) ∧ H F.c = some (CodeO F.c F.qual) ∧ CellsT H F.cl fr ws ∧ sp ws vs (hide (inC F.cl) H) (fun v H' => (∀ b, inC F.cl b → H' b = none) → Q v (back (inC F.cl) H H')) E) :=
  ⟨fun A outer s H us vs Q E hr e0 r q => by
    obtain ⟨ws, hf, hc, C, q⟩ := q
    exact run_cell Fn hr e0 hf hc C r q⟩
def tCallV (P : Program) (w : World) (K : PySem.W.Frag) (mg : Str → Option Value) (base : Heap) (k i : Nat) (t : TA) : TE := fun σ H Q => ∃ (f : Addr) (F : NF) (sp : Sp), σ[i]? = some (some (.ref f)) ∧ H f = some (FnO f F) ∧ Callable P w K mg base k f sp ∧ t σ H fun vs H1 => H1 f = some (FnO f F) ∧ sp vs H1 Q E0
section
variable {X : Cx} {e : Expr} {es : List Expr} {t : TA} {x : Str} {p pos : Pos} {i k : Nat}
theorem pe_callV (P : Program) (w : World) (K : PySem.W.Frag) (mg : Str → Option Value) (base : Heap) (hP : X.prog = P) (hw : X.w = w) (hK : X.K = K) (hmg : X.mg = mg) (hba : X.base = base) (room : Room k X.A) (hN : X.N[i]? = some x) (vis : Vis X.env.scope x) (args : PA X (e :: es) t) (nd : (x == ("__debug__" : Str)) = false := by decide)
    (nc : (x == ("__classdict__" : Str)) = false := by decide) (st : starEach (e :: es) X.env = (false, eval e X.env) :: starEach es X.env := by rfl) (pl : (backTo pos (starEach es X.env)).any (·.1) = false := by rfl) : PE X (.Call (.Name x p) (e :: es) [] pos) (tCallV P w K mg base k i t) := by
  subst hP hw hK hmg hba
  refine ⟨fun pins s σ H Q I h => ?_⟩
  obtain ⟨f, F, sp, hs, hf, ca, ht⟩ := h
  refine wpAny_Call_Name_kw (thn ((pe_var (pos := p) hN vis nd nc).run pins s σ H (fun v H1 => v = .ref f ∧ H1 = H) I ⟨.ref f, hs, rfl, rfl⟩) fun u s1 z => ?_)
  obtain ⟨v, H1, I1, r1, ev, eH⟩ := z
  subst ev
  rw [eH] at I1
  obtain rfl : u = Value.ref f := r1
  refine PySem.W.callWith_F (first := []) (fnAt_of I1 hf) (thn (args.run pos pins s1 σ H _ I1 ht) fun us s2 z => ?_) st pl
  obtain ⟨vs, H2, I2, r, h1, q⟩ := z
  refine ⟨fnAt_of I2 h1, ?_⟩
  show wpAny _ _ (call (.ref f) us) _ _ _
  refine wpAny_call (codeAny_mono (ca.run X.A X.stack s2 H2 us vs Q E0 room I2.env0 r q) fun res s' z => ?_)
  cases res with
  | error er => exact z.elim
  | ok fl =>
    cases fl with
    | ret u => exact I2.after z
    | next => exact z.elim
    | brk => exact z.elim
    | cont => exact z.elim
def tCallTr (OK : Prop) (cl : List (Str × Addr)) (fr : List Str) (js : List Nat) (n : Nat) (sp : Sp) (t : TA) : TE := fun σ H Q => t σ H fun vs H1 => vs.length = n ∧ (OK → ∀ H2 : Hp, (∀ b, ¬ inC cl b → H2 b = H1 b) → (∀ b, inC cl b → H1 b = none) → CellsT H2 cl fr (js.map (slotAt σ)) → sp vs H2 (fun v H' => (∀ b, inC cl b → H' b = H2 b) ∧ Q v (hide (inC cl) H')) E0)
theorem pe_callTr {f : Addr} {fd : FuncData} {ps fr : List Str} {js : List Nat} {sp : Sp} (G : FnOk X.prog X.w X.K X.mg X.base CX0 k f fd ps sp) (room : Room k X.A) (hg : Gl X x) (hm : X.mg x = some (.ref f)) (kp : PySem.W.keepIn X.K (.ref f) = true) (bi : Binds X.K fd ps []) (cp : X.Ok → Caps X X.env.cells fr js) (allfn : ∀ y, X.fn y = true) (args : PA X (e :: es) t)
    (nd : (x == ("__debug__" : Str)) = false := by decide) (st : starEach (e :: es) X.env = (false, eval e X.env) :: starEach es X.env := by rfl) (pl : (backTo pos (starEach es X.env)).any (·.1) = false := by rfl) : PE X (.Call (.Name x p) (e :: es) [] pos) (tCallTr X.Ok X.env.cells fr js ps.length sp t) := by
  refine ⟨fun pins s σ H Q I h => ?_⟩
  refine wpAny_Call_Name_kw (ld_glob I hg hm ?_ nd)
  refine PySem.W.callWith_K (h₀ := X.base) I.ok.mod.kin kp (thn (args.run pos pins s σ H _ I h) fun us s1 z => ?_) st pl
  obtain ⟨vs, H1, I1, r, hl, q⟩ := z
  refine ⟨I1.kIn, ?_⟩
  have C := cells_of I1 (cp I1.ok)
  have young : ∀ b, inC X.env.cells b → X.s_0.heap.objs.size ≤ b := fun b z => by
    obtain ⟨y, hy⟩ := z
    exact I1.ok.cab y b (allfn y) hy
  have old : ∀ b, inC X.env.cells b → X.base.get? b = none ∧ b ∉ frs X.stack := fun b z => by
    have yb := young b z
    refine ⟨?_, fun hb => ?_⟩
    · cases g : X.base.get? b with
      | none => rfl
      | some o => exact absurd (Nat.lt_of_lt_of_le (Heap.lt_size (I1.ok.bs b o g).1) yb) (Nat.lt_irrefl _)
    · have nofs : b ∉ frs X.outer := fun hb => by
        obtain ⟨_, o, ho, _⟩ := I1.ok.funs.mem hb
        exact absurd (Nat.lt_of_lt_of_le (Heap.lt_size ho) yb) (Nat.lt_irrefl _)
      rcases I1.ok.stk with z' | ⟨z', z2⟩
      · rw [z'] at hb
        exact nofs hb
      · rw [z'] at hb
        unfold frs at hb
        rw [List.filterMap_cons, z2] at hb
        rcases List.mem_cons.mp hb with y | y
        · obtain ⟨yy, hy⟩ := z
          exact I1.cne yy b hy y
        · exact nofs y
  refine wpAny_call (codeAny_mono (run_track G room I1.env0 (bi s1 us I1.kIn (by rw [List.append_nil, ← r.length]; exact hl)) (by rw [List.append_nil]; exact r) C old fun H2 a b => q I1.ok H2 a (fun b z => ?_) b) fun res s' z => ?_)
  · obtain ⟨y, hy⟩ := z
    exact (C.all y b hy).1
  · cases res with
    | error er => exact z.elim
    | ok fl =>
      cases fl with
      | ret u => exact I1.after z
      | next => exact z.elim
      | brk => exact z.elim
      | cont => exact z.elim
end
/-! ### a def whose code object is known: it makes functions of its own -/
structure FunC (K : PySem.W.Frag) (x qual : Str) (st : Stmt) (f : Addr) (fd : FuncData) (c : Addr) : Prop where
  ex : ∃ (oc : Value) (od : Option Addr) (kV doc pm : Value) (an : Option Addr) (ct : Value) (osl : Array (Option Value)), fd = PySem.W.fnOf x qual (defArgs st) (defBody st) (defScope st) .none kV doc pm an (.ref c) ct ∧ K.lookup f = some ⟨oc, od, .func fd, osl⟩ ∧ PySem.W.codeIn K (.ref c) qual = true
theorem FunC.ok {P : Program} {w : World} {K : PySem.W.Frag} {mg : Str → Option Value} {base : Heap} {x qual : Str} {st : Stmt} {f c : Addr} {fd : FuncData} {N ps : List Str} {k : Nat} {sp : Sp} (F : FunC K x qual st f fd c) (S : FnScope N ps (defScope st)) (len : ∀ vs H Q E, sp vs H Q E → vs.length = ps.length)
    (body : ∀ (A : Around) (outer : List Env) (s : Shared) (H : Hp) (vs : List V) (Q : VK) (E : XK), Room k (A.deeper (envOfC qual (defScope st) s.heap.objs.size f (.ref c))) → sp vs H Q E → ∃ t, PSs (cxOf CX0 P w K mg base N qual (defScope st) f (.ref c) A outer s H E).nox (defBody st) t ∧ t { nx := fun _ H' => Q .non H', rt := Q } (start N vs) H) : FnOk P w K mg base CX0 (k + 1) f fd ps sp := by
  obtain ⟨oc, od, kV, doc, pm, an, ct, osl, rfl, lk, hcd⟩ := F.ex
  refine fn_of lk hcd S len fun A outer s H vs Q E hr hsp => ?_
  obtain ⟨t, h, q⟩ := body A outer s H vs Q E hr hsp
  exact ⟨t, h.nox, q⟩
def lineOf : Stmt → Nat
  | .FunctionDef _ _ _ _ _ _ _ _ _ p => p.line
  | _ => 0
end LH

namespace LH
open PySem PySem.Spec PyProof.Rows L2
/-! ### a partition of the states: groups by number, homes by state -/
structure Part (n : Nat) (gs : List (List Nat)) (hl : List Nat) : Prop where
  len : hl.length = n
  mem : ∀ (h : Nat) (g : List Nat), gs[h]? = some g → ∀ s : Nat, s ∈ g ↔ hl[s]? = some h
  lt : ∀ (s h : Nat), hl[s]? = some h → h < gs.length
  nd : ∀ g ∈ gs, g.Nodup
  ne : ∀ g ∈ gs, g ≠ []
structure Split (n : Nat) (gs gs' : List (List Nat)) (hl hl' : List Nat) (home : Nat) (hit : List Nat) : Prop where
  grow : gs.length ≤ gs'.length
  part : Part n gs' hl'
  map : ∃ B : Nat → Bool, (∀ s : Nat, hl'[s]? = if hl[s]? = some home ∧ B s = true then some gs.length else hl[s]?) ∧ ((∀ s : Nat, hl[s]? = some home → (B s = true ↔ s ∈ hit)) ∨ (∀ s : Nat, hl[s]? = some home → (B s = true ↔ s ∉ hit)))
def GrpAt (H : Hp) (gr : Addr) (as : List Addr) (gs : List (List Nat)) : Prop := H gr = some (.lst (vr as)) ∧ as.Nodup ∧ as.length = gs.length ∧ ∀ (i : Nat) (a : Addr) (g : List Nat), as[i]? = some a → gs[i]? = some g → H a = some (.dK (dk g))
theorem GrpAt.dict {H : Hp} {gr : Addr} {as : List Addr} {gs : List (List Nat)} (h : GrpAt H gr as gs) {a : Addr} (ha : a ∈ as) : ∃ g, H a = some (.dK (dk g)) := by
  obtain ⟨i, hi⟩ := List.mem_iff_getElem?.mp ha
  have hl : i < gs.length := by
    rw [← h.2.2.1]
    exact (List.getElem?_eq_some_iff.mp hi).1
  exact ⟨gs[i], h.2.2.2 i a _ hi (List.getElem?_eq_getElem hl)⟩
theorem GrpAt.not {H : Hp} {gr : Addr} {as : List Addr} {gs : List (List Nat)} (h : GrpAt H gr as gs) {a : Addr} {o : HO} (ha : H a = some o) (no : ∀ g, o ≠ .dK (dk g)) : a ∉ as := fun z => by
  obtain ⟨g, e⟩ := h.dict z
  rw [ha] at e
  exact no g (Option.some.inj e)
/-- the frame: what is not the groups', not the homes' -/
def OffG (gr ho : Addr) (as : List Addr) (H H' : Hp) : Prop := ∀ b o, b ≠ gr → b ≠ ho → b ∉ as → H b = some o → H' b = some o
theorem Part.many {n : Nat} {gs : List (List Nat)} {hl : List Nat} (p : Part n gs hl) : gs.length ≤ n := by
  have key : ∀ (k : Nat) (hk : k ≤ gs.length), ∃ xs : List Nat, xs.length = k ∧ xs.Nodup ∧ ∀ x ∈ xs, ∃ h, h < k ∧ hl[x]? = some h := by
    intro k
    induction k with
    | zero => exact fun _ => ⟨[], rfl, List.nodup_nil, fun _ h => nomatch h⟩
    | succ k ih =>
      intro hk
      obtain ⟨xs, l, nd, q⟩ := ih (by omega)
      have hg : gs[k]? = some gs[k] := List.getElem?_eq_getElem (by omega)
      cases eg : gs[k] with
      | nil => exact absurd eg (p.ne _ (List.getElem_mem _))
      | cons y r =>
        have hy : hl[y]? = some k := (p.mem k _ hg y).mp (by rw [eg]; exact List.mem_cons_self ..)
        refine ⟨y :: xs, by rw [List.length_cons, l], List.nodup_cons.mpr ⟨fun z => ?_, nd⟩, fun x hx => ?_⟩
        · obtain ⟨h, hlt, e⟩ := q y z
          rw [hy] at e
          cases e
          omega
        · rcases List.mem_cons.mp hx with rfl | hx
          · exact ⟨k, Nat.lt_succ_self k, hy⟩
          · obtain ⟨h, hlt, e⟩ := q x hx
            exact ⟨h, by omega, e⟩
  obtain ⟨xs, l, nd, q⟩ := key gs.length (Nat.le_refl _)
  have := len_le_of_sub (ys := List.range n) nd fun x hx => by
    obtain ⟨h, _, e⟩ := q x hx
    have := (List.getElem?_eq_some_iff.mp e).1
    rw [p.len] at this
    exact List.mem_range.mpr this
  rw [List.length_range] at this
  omega
/-- the states of mv get a number of their own -/
def rehome (hl mv : List Nat) (new : Nat) : List Nat := mv.foldl (fun l s => l.set s new) hl
theorem rehome_len (new : Nat) : ∀ (mv hl : List Nat), (rehome hl mv new).length = hl.length
  | [], _ => rfl
  | s :: r, hl => by
    show (rehome (hl.set s new) r new).length = _
    rw [rehome_len new r, List.length_set]
theorem rehome_get (new : Nat) : ∀ (mv hl : List Nat) (s : Nat), (∀ x ∈ mv, x < hl.length) → (rehome hl mv new)[s]? = if s ∈ mv then some new else hl[s]?
  | [], _, _, _ => by simp [rehome]
  | x :: r, hl, s, h => by
    have ih := rehome_get new r (hl.set x new) s fun y hy => by
      rw [List.length_set]
      exact h y (List.mem_cons_of_mem _ hy)
    show (rehome (hl.set x new) r new)[s]? = _
    rw [ih]
    have hx := h x (List.mem_cons_self ..)
    by_cases e : s ∈ r
    · rw [if_pos e, if_pos (List.mem_cons_of_mem _ e)]
    · rw [if_neg e]
      by_cases e2 : s = x
      · subst e2
        rw [if_pos (List.mem_cons_self ..), List.getElem?_set_self hx]
      · rw [if_neg (fun z => (List.mem_cons.mp z).elim e2 e), List.getElem?_set_ne (Ne.symm e2)]
theorem rehome_snoc (hl mv : List Nat) (s new : Nat) : rehome hl (mv ++ [s]) new = (rehome hl mv new).set s new := by
  unfold rehome
  rw [List.foldl_append]
  rfl
/-- a group is parted into rest (it keeps the number) and mv (a new one) -/
theorem part_split {n home : Nat} {gs : List (List Nat)} {hl g rest mv hit : List Nat} (p : Part n gs hl) (hg : gs[home]? = some g) (nr : rest.Nodup) (nm : mv.Nodup) (r0 : rest ≠ []) (m0 : mv ≠ [])
    (h : ((∀ s, s ∈ mv ↔ s ∈ g ∧ s ∈ hit) ∧ (∀ s, s ∈ rest ↔ s ∈ g ∧ s ∉ hit)) ∨ ((∀ s, s ∈ rest ↔ s ∈ g ∧ s ∈ hit) ∧ (∀ s, s ∈ mv ↔ s ∈ g ∧ s ∉ hit))) : Split n gs (gs.set home rest ++ [mv]) hl (rehome hl mv gs.length) home hit := by
  have hh : home < gs.length := (List.getElem?_eq_some_iff.mp hg).1
  have mg : ∀ s, s ∈ mv → s ∈ g := fun s hs => by
    rcases h with h | h
    · exact ((h.1 s).mp hs).1
    · exact ((h.2 s).mp hs).1
  have rg : ∀ s, s ∈ rest ↔ s ∈ g ∧ s ∉ mv := fun s => by
    rcases h with h | h
    · rw [h.2 s, h.1 s]
      exact ⟨fun ⟨a, b⟩ => ⟨a, fun c => b c.2⟩, fun ⟨a, b⟩ => ⟨a, fun c => b ⟨a, c⟩⟩⟩
    · rw [h.1 s, h.2 s]
      refine ⟨fun ⟨a, b⟩ => ⟨a, fun c => c.2 b⟩, fun ⟨a, b⟩ => ⟨a, ?_⟩⟩
      by_cases q : s ∈ hit
      · exact q
      · exact absurd ⟨a, q⟩ b
  have gm : ∀ s, s ∈ g ↔ hl[s]? = some home := p.mem home g hg
  have lt : ∀ x ∈ mv, x < hl.length := fun x hx => (List.getElem?_eq_some_iff.mp ((gm x).mp (mg x hx))).1
  have get := fun s => rehome_get gs.length mv hl s lt
  refine ⟨by rw [List.length_append, List.length_set]; omega, ⟨?_, fun k g' hk s => ?_, fun s k hs => ?_, fun g' hg' => ?_, fun g' hg' => ?_⟩, fun s => decide (s ∈ mv), fun s => ?_, ?_⟩
  · rw [rehome_len, p.len]
  · rw [get s]
    by_cases hk1 : k < gs.length
    · rw [List.getElem?_append_left (by rw [List.length_set]; exact hk1)] at hk
      by_cases hkh : k = home
      · subst hkh
        rw [List.getElem?_set_self hk1] at hk
        cases hk
        rw [rg s, gm s]
        by_cases e : s ∈ mv
        · rw [if_pos e]
          exact ⟨fun z => absurd e z.2, fun z => by
            have := Option.some.inj z
            omega⟩
        · rw [if_neg e]
          exact ⟨fun z => z.1, fun z => ⟨z, e⟩⟩
      · rw [List.getElem?_set_ne (Ne.symm hkh)] at hk
        rw [p.mem k g' hk s]
        by_cases e : s ∈ mv
        · rw [if_pos e]
          have := (gm s).mp (mg s e)
          rw [this]
          exact ⟨fun z => absurd (Option.some.inj z).symm hkh, fun z => by
            have := Option.some.inj z
            omega⟩
        · rw [if_neg e]
    · have ek : k = gs.length := by
        have := (List.getElem?_eq_some_iff.mp hk).1
        rw [List.length_append, List.length_set] at this
        have : k < gs.length + 1 := this
        omega
      subst ek
      rw [List.getElem?_append_right (by rw [List.length_set]; exact Nat.le_refl _), List.length_set, Nat.sub_self] at hk
      cases hk
      by_cases e : s ∈ mv
      · rw [if_pos e]
        exact ⟨fun _ => rfl, fun _ => e⟩
      · rw [if_neg e]
        exact ⟨fun z => absurd z e, fun z => absurd (p.lt s _ z) (Nat.lt_irrefl _)⟩
  · rw [get s] at hs
    rw [List.length_append, List.length_set]
    show k < gs.length + 1
    by_cases e : s ∈ mv
    · rw [if_pos e] at hs
      cases hs
      omega
    · rw [if_neg e] at hs
      have := p.lt s k hs
      omega
  · rcases List.mem_append.mp hg' with z | z
    · rcases List.mem_or_eq_of_mem_set z with y | y
      · exact p.nd _ y
      · rw [y]; exact nr
    · rw [List.mem_singleton.mp z]; exact nm
  · rcases List.mem_append.mp hg' with z | z
    · rcases List.mem_or_eq_of_mem_set z with y | y
      · exact p.ne _ y
      · rw [y]; exact r0
    · rw [List.mem_singleton.mp z]; exact m0
  · rw [get s]
    by_cases e : s ∈ mv
    · rw [if_pos e, if_pos ⟨(gm s).mp (mg s e), decide_eq_true e⟩]
    · rw [if_neg e, if_neg (fun z => e (of_decide_eq_true z.2))]
  · rcases h with h | h
    · exact .inl fun s hs => by
        rw [decide_eq_true_iff, h.1 s, gm s]
        exact ⟨fun z => z.2, fun z => ⟨hs, z⟩⟩
    · exact .inr fun s hs => by
        rw [decide_eq_true_iff, h.2 s, gm s]
        exact ⟨fun z => z.2, fun z => ⟨hs, z⟩⟩
theorem split_none {n home : Nat} {gs : List (List Nat)} {hl g hit : List Nat} (p : Part n gs hl) (hg : gs[home]? = some g) (h : ∀ s ∈ g, s ∈ hit) : Split n gs gs hl hl home hit :=
  ⟨Nat.le_refl _, p, fun _ => false, fun s => by rw [if_neg (fun z => Bool.false_ne_true z.2)], .inr fun s hs => ⟨fun z => absurd z Bool.false_ne_true, fun z => absurd (h s ((p.mem home g hg s).mpr hs)) z⟩⟩
end LH

namespace LH
open PySem PySem.Spec PyProof.Rows L2
theorem int_at {ns : List Nat} {i : Nat} {x : V} (h : (vi ns)[i]? = some x) : ∃ s, ns[i]? = some s ∧ x = .int (s : Int) := by
  rw [List.getElem?_map] at h
  cases e : ns[i]? with
  | none =>
    rw [e] at h
    cases h
  | some s =>
    rw [e] at h
    cases h
    exact ⟨s, rfl, rfl⟩
theorem take_snoc {α : Type} {xs : List α} {i : Nat} {x : α} (h : xs[i]? = some x) : xs.take (i + 1) = xs.take i ++ [x] := by
  rw [List.take_add_one, h]
  rfl
theorem notin_take {xs : List Nat} (nd : xs.Nodup) {i s : Nat} (h : xs[i]? = some s) : s ∉ xs.take i := fun z => by
  have hi := (List.getElem?_eq_some_iff.mp h).1
  obtain ⟨j, hj⟩ := List.mem_iff_getElem?.mp z
  have hji : j < i := by
    have := (List.getElem?_eq_some_iff.mp hj).1
    rw [List.length_take] at this
    omega
  rw [List.getElem?_take_of_lt hji] at hj
  have := nd_ix nd hj h
  omega
theorem filt_step {g hit : List Nat} {i s : Nat} (h : hit[i]? = some s) : (g.filter fun a => decide (a ∉ hit.take i)).filter (fun a => decide (a ≠ s)) = g.filter fun a => decide (a ∉ hit.take (i + 1)) := by
  rw [List.filter_filter]
  refine List.filter_congr fun a _ => ?_
  rw [take_snoc h, Bool.eq_iff_iff]
  simp [not_or, and_comm]
theorem ixN_nat {n i : Nat} (h : i < n) : ixN n (i : Int) = some i := by
  unfold ixN
  simp
  omega
theorem vi_set (ns : List Nat) (i x : Nat) : (vi ns).set i (.int (x : Int)) = vi (ns.set i x) := by
  show List.set (List.map _ ns) i _ = List.map _ (ns.set i x)
  rw [List.map_set]
theorem vr_set (as : List Addr) (i : Nat) (x : Addr) : (vr as).set i (.ref x) = vr (as.set i x) := by
  show List.set (List.map _ as) i _ = List.map _ (as.set i x)
  rw [List.map_set]
theorem nodup_set {as : List Addr} {i : Nat} {x : Addr} (nd : as.Nodup) (hx : x ∉ as) : (as.set i x).Nodup := by
  rw [List.nodup_iff_pairwise_ne] at *
  induction as generalizing i with
  | nil => simp
  | cons a r ih =>
    have h2 := List.pairwise_cons.mp nd
    cases i with
    | zero =>
      refine List.Pairwise.cons (fun b hb e => hx ?_) h2.2
      rw [e]
      exact List.mem_cons_of_mem _ hb
    | succ i =>
      refine List.Pairwise.cons (fun b hb e => ?_) (ih (i := i) h2.2 fun z => hx (List.mem_cons_of_mem _ z))
      rcases List.mem_or_eq_of_mem_set hb with y | y
      · exact h2.1 b y e
      · exact hx (by rw [← y, ← e]; exact List.mem_cons_self ..)
theorem two_mul_len (n : Nat) : (2 : Int) * (n : Int) = ((2 * n : Nat) : Int) := by omega
section
variable {P : Program} {w : World} {K : PySem.W.Frag} {mg : Str → Option Value} {base : Heap}
def sp_split_group : Sp := fun vs H Q _ => ∃ (gr ho ht : Addr) (home n : Nat) (as : List Addr) (gs : List (List Nat)) (hl hit : List Nat), vs = [.ref gr, .ref ho, .int (home : Int), .ref ht] ∧ GrpAt H gr as gs ∧ H ho = some (.lst (vi hl)) ∧ H ht = some (.lst (vi hit)) ∧ gr ≠ ho ∧ ht ≠ gr ∧ ht ≠ ho ∧
  Part n gs hl ∧ n ≤ 1000000 ∧ hit.Nodup ∧ hit ≠ [] ∧ (∀ s ∈ hit, hl[s]? = some home) ∧
  ∀ H' as' gs' hl', GrpAt H' gr as' gs' → H' ho = some (.lst (vi hl')) → Split n gs gs' hl hl' home hit → OffG gr ho as H H' → (∀ a ∈ as', a ∈ as ∨ H a = none) → Q .non H'
theorem ok_split_group (T : TX K mg) : FnOk P w K mg base CX0 1 T.a_split_group T.fd_split_group ["groups", "homes", "home", "hit"] sp_split_group := by
  refine T.F_split_group.ok sc_split_group (fun vs H Q E h => ?_) (fun cdv A outer s H vs Q E hr h => ?_)
  · obtain ⟨gr, ho, ht, home, n, as, gs, hl, hit, rfl, _⟩ := h
    rfl
  · obtain ⟨gr, ho, ht, home, n, as, gs, hl, hit, rfl, hG, hho, hht, ngh, ntg, nth, hP, hn, nd, h0, hsub, q⟩ := h
    refine ⟨_, (pss_cons (ps_set (i := 4) sc_split_group.nd rfl (Or.inl rfl) (pe_ix (ix_listK K rfl) (pv 0) (pv 2) (fun _ _ => rfl)))
      (pss_cons (ps_if (pt_cmpR op_eq (pe_callB (call_lenK K rfl) (by rfl) T.m_len (by decide +kernel) (pa_cons (pv 3) pa_nil)) (pe_callB call_lenD (by rfl) T.m_len (by decide +kernel) (pa_cons (pv 4) pa_nil)) (nomark _))
        (pss_one ps_retN)
        pss_nil)
      (C8.pss_cut (ps_if (pt_cmpR op_le (pe_op op_mul pe_int (pe_callB (call_lenK K rfl) (by rfl) T.m_len (by decide +kernel) (pa_cons (pv 3) pa_nil))) (pe_callB call_lenD (by rfl) T.m_len (by decide +kernel) (pa_cons (pv 4) pa_nil)) (nomark _))
        (pss_cons (ps_setDc (i := 5) (own := [("state", 6)]) (g := gName 6) (tt := tYes) (by rfl) sc_split_group.nd rfl rfl (sw_trueD rfl rfl rfl (by decide +kernel)) (pi_listK K rfl (pv 3)) (blkOk_by (own := [("state", 6)]) (N := N_split_group) (by kernel_rfl)) (fun _ _ _ _ _ => (pg_name (i := 6) sc_split_group.nd rfl (Or.inl rfl))) (fun _ _ _ _ _ => pts_nil) (fun _ _ _ _ _ => (pv 6)) (fun _ _ _ _ _ => pe_bl))
          (pss_one (ps_for PassesOwn.never rfl (pi_listK K rfl (pv 3)) (pg_name (i := 6) sc_split_group.nd rfl (Or.inl rfl))
            (pss_one (ps_ddel (pv 4) (pv 6))))))
        (pss_cons (ps_set (i := 7) sc_split_group.nd rfl (Or.inr rfl) (pe_dc (own := [("state", 6)]) (g := gName 6) (tt := tYes) (by rfl) sc_split_group.nd (pi_listK K rfl (pv 3)) (blkOk_by (own := [("state", 6)]) (N := N_split_group) (by kernel_rfl)) (fun _ _ _ _ _ => (pg_name (i := 6) sc_split_group.nd rfl (Or.inl rfl))) (fun _ _ _ _ _ => pts_nil) (fun _ _ _ _ _ => (pv 6)) (fun _ _ _ _ _ => pe_bl)))
          (pss_cons (ps_lock (ps_setDc (i := 5) (own := [("state", 6)]) (g := gName 6) (by rfl) sc_split_group.nd rfl rfl (sw_trueD rfl rfl rfl (by decide +kernel)) (pi_keys (pv 4)) (blkOk_by (own := [("state", 6)]) (N := N_split_group) (by kernel_rfl)) (fun _ _ _ _ _ => (pg_name (i := 6) sc_split_group.nd rfl (Or.inl rfl))) (fun _ _ _ _ _ => (pts_one (pt_cmp (pc_dnotin (hu_of hr) (pv 6) (pv 7))))) (fun _ _ _ _ _ => (pv 6)) (fun _ _ _ _ _ => pe_bl)))
          (pss_one (ps_asg (pv 7) (pg_sub (pv 0) (pv 2) set_list))))))
      (pss_cons (ps_lock (ps_for PassesOwn.never rfl (pi_keys (pv 5)) (pg_name (i := 6) sc_split_group.nd rfl (Or.inl rfl))
        (pss_one (ps_asg (pe_callB (call_lenK K rfl) (by rfl) T.m_len (by decide +kernel) (pa_cons (pv 0) pa_nil)) (pg_sub (pv 1) (pv 6) set_list)))))
      (pss_one (ps_expr (pe_bmK K rfl PySem.F.plainAttrs_list PySem.F.slot_list_append PySem.F.type_list_append mt_append (pv 0) (pa_cons (pv 5) pa_nil)))))))), ?_⟩
    obtain ⟨hgr, nda, hlen, hdk⟩ := id hG
    obtain ⟨s0, hs0⟩ : ∃ s0, s0 ∈ hit := List.exists_mem_of_ne_nil _ h0
    have hhome : home < gs.length := hP.lt s0 home (hsub s0 hs0)
    have hg : gs[home]? = some gs[home] := List.getElem?_eq_getElem hhome
    have haa : as[home]? = some as[home] := List.getElem?_eq_getElem (by omega)
    generalize gs[home] = g at hg
    generalize as[home] = a at haa
    have ha : H a = some (.dK (dk g)) := hdk home a g haa hg
    have ama : a ∈ as := List.mem_of_getElem? haa
    have gm : ∀ s, s ∈ g ↔ hl[s]? = some home := hP.mem home g hg
    have ndg : g.Nodup := hP.nd g (List.mem_of_getElem? hg)
    have hsg : ∀ s ∈ hit, s ∈ g := fun s hs => (gm s).mpr (hsub s hs)
    have lg : g.length ≤ n := by
      have := len_le_of_sub (ys := List.range n) ndg fun x hx => by
        have := (List.getElem?_eq_some_iff.mp ((gm x).mp hx)).1
        rw [hP.len] at this
        exact List.mem_range.mpr this
      rw [List.length_range] at this
      exact this
    have lh : hit.length ≤ g.length := len_le_of_sub nd hsg
    have nga : a ≠ gr := ne_of ha hgr (by intro z; cases z)
    have nha : a ≠ ho := ne_of ha hho (by intro z; cases z)
    have nta : a ≠ ht := ne_of ha hht (by intro z; cases z)
    have eva : (vr as)[home]? = some (.ref a) := by
      rw [List.getElem?_map, haa]
      rfl
    -- members
    refine ⟨.ref gr, rfl, .int (home : Int), rfl, gr, _, (home : Int), .ref a, rfl, rfl, .inl (.inl hgr), atI_nat eva, ?_⟩
    refine ⟨.ref ht, rfl, ht, _, rfl, .inl (.inl (.inl hht)), .ref a, rfl, a, _, rfl, ha, rfl, _, rfl, ite2 (fun e => ?_) (fun e => ?_)⟩
    · have e1 := V.int.inj (of_decide_eq_true e)
      rw [List.length_map, List.length_map] at e1
      exact q H as gs hl hG hho (split_none hP hg (all_of_len nd hsg (by omega))) (fun _ _ _ _ _ z => z) (fun a z => .inl z)
    · have hlt : hit.length < g.length := by
        have : ¬ hit.length = g.length := fun z => e (decide_eq_true (by rw [List.length_map, List.length_map, z]))
        omega
      obtain ⟨s1, hs1, hs1'⟩ : ∃ s1, s1 ∈ g ∧ s1 ∉ hit := by
        by_cases z : ∃ s1, s1 ∈ g ∧ s1 ∉ hit
        · exact z
        · have := len_le_of_sub ndg fun x hx => by
            by_cases y : x ∈ hit
            · exact y
            · exact absurd ⟨x, hx, y⟩ z
          omega
      refine ⟨fun σ' H' => ∃ dm as2 rest mv y4 y6 y7, σ' = [some (.ref gr), some (.ref ho), some (.int (home : Int)), some (.ref ht), y4, some (.ref dm), y6, y7] ∧ GrpAt H' gr as2 (gs.set home rest) ∧ H' ho = some (.lst (vi hl)) ∧ H' dm = some (.dK (dk mv)) ∧ H dm = none ∧ dm ∉ as2 ∧ OffG gr ho as H H' ∧ (∀ a ∈ as2, a ∈ as ∨ H a = none) ∧
          rest.Nodup ∧ mv.Nodup ∧ rest ≠ [] ∧ mv ≠ [] ∧ mv.length ≤ n ∧ (((∀ s, s ∈ mv ↔ s ∈ g ∧ s ∈ hit) ∧ (∀ s, s ∈ rest ↔ s ∈ g ∧ s ∉ hit)) ∨ ((∀ s, s ∈ rest ↔ s ∈ g ∧ s ∈ hit) ∧ (∀ s, s ∈ mv ↔ s ∈ g ∧ s ∉ hit))), ?_, fun σ' H' hM => ?_⟩
      · refine ⟨.ref ht, rfl, ht, _, rfl, .inl (.inl (.inl hht)), 2, _, rfl, rfl, .inl ⟨by decide, by decide⟩, .ref a, rfl, a, _, rfl, ha, _, _, rfl, rfl, _, rfl, ite2 (fun _ => ?_) (fun _ => ?_)⟩
        · -- moved = {state: True for state in hit}
          refine ⟨.ref ht, rfl, ht, rfl, ⟨_, .inl (.inl hht)⟩, fun D nD => ?_⟩
          refine dc_it (walk_list (K := K) (a := ht) (xs := vi hit)) (fun i H' => H' = upd H D (.dK (dk (hit.take i)))) rfl (fun i H' _ hW => ?_) (fun i x H1 H1' hi hW hY => ?_) (fun H1 hW => ?_)
          · rw [hW]
            exact .inl (.inl (same_new nD _ _ hht))
          · obtain ⟨rfl, hx⟩ := hY
            subst hW
            obtain ⟨s2, hs2, rfl⟩ := int_at hx
            refine ⟨rfl, lcyes ?_⟩
            refine ⟨.int (s2 : Int), rfl, _, Sum.inl (s2 : Int), rfl, upd_same, ?_, ?_⟩
            · rw [List.length_map, List.length_take]
              exact Nat.lt_of_le_of_lt (show min i hit.length ≤ 1000000 by omega) (by decide)
            · rw [upd_upd, putK_dk (notin_take nd hs2), ← take_snoc hs2]
          · subst hW
            have et : hit.take (vi hit).length = hit := List.take_of_length_le (by rw [List.length_map]; exact Nat.le_refl _)
            rw [et]
            have da : a ≠ D := ne_of_none ha nD
            have dt : ht ≠ D := ne_of_none hht nD
            -- for state in hit: del members[state]
            refine ⟨.ref ht, rfl, ht, rfl, ⟨_, .inl (.inl (same_new nD _ _ hht))⟩, ?_⟩
            refine for_it (walk_list (K := K) (a := ht) (xs := vi hit)) (fun i σ H' => (H' a = some (.dK (dk (g.filter fun s => decide (s ∉ hit.take i)))) ∧ ∀ b, b ≠ a → H' b = upd H D (.dK (dk hit)) b) ∧ ∃ y6 y7, σ = [some (.ref gr), some (.ref ho), some (.int (home : Int)), some (.ref ht), some (.ref a), some (.ref D), y6, y7]) ⟨⟨?_, fun _ _ => rfl⟩, none, none, rfl⟩ (fun i σ H' _ hW => ?_) (fun i x σ H1 H1' hi hW hY => ?_) (fun σ H1 hW => ?_)
            · rw [upd_ne da, ha]
              have : (g.filter fun s => decide (s ∉ hit.take 0)) = g := by
                rw [List.take_zero]
                exact List.filter_eq_self.mpr fun a _ => by simp
              rw [this]
            · have := hW.1.2 ht (Ne.symm nta)
              refine .inl (.inl ?_)
              rw [this, upd_ne dt]
              exact hht
            · obtain ⟨⟨w1, w2⟩, y6, y7, rfl⟩ := hW
              obtain ⟨rfl, hx⟩ := hY
              obtain ⟨s2, hs2, rfl⟩ := int_at hx
              have hm2 := List.mem_of_getElem? hs2
              refine ⟨.ref a, rfl, .int (s2 : Int), rfl, a, _, Sum.inl (s2 : Int), rfl, w1, rfl, ?_, ⟨?_, ?_⟩, some (.int (s2 : Int)), y7, rfl⟩
              · rw [valV_dk, if_pos]
                · rfl
                · exact List.mem_filter.mpr ⟨hsg _ hm2, decide_eq_true (notin_take nd hs2)⟩
              · rw [upd_same, dropK_dk, filt_step hs2]
              · intro b hb
                rw [upd_ne hb]
                exact w2 b hb
            · obtain ⟨⟨w1, w2⟩, y6, y7, rfl⟩ := hW
              rw [et] at w1
              have nDas : D ∉ as := fun z => by
                obtain ⟨g', e'⟩ := hG.dict z
                rw [nD] at e'
                cases e'
              have w2' : ∀ b, b ≠ a → ∀ o, H b = some o → H1 b = some o := fun b hb o e => by
                rw [w2 b hb]
                exact same_new nD _ _ e
              refine ⟨D, as, g.filter fun s => decide (s ∉ hit), hit, _, y6, y7, rfl, ⟨w2' _ (Ne.symm nga) _ hgr, nda, by rw [List.length_set]; exact hlen, fun i b g' hb hg' => ?_⟩, w2' _ (Ne.symm nha) _ hho, ?_, nD, nDas, ?_, fun b hb => .inl hb, ndg.filter _, nd, ?_, h0, by omega, .inl ⟨fun s => ⟨fun z => ⟨hsg s z, z⟩, fun z => z.2⟩, fun s => by rw [List.mem_filter, decide_eq_true_iff]⟩⟩
              · by_cases hih : i = home
                · subst hih
                  rw [List.getElem?_set_self hhome] at hg'
                  cases hg'
                  rw [haa] at hb
                  cases hb
                  exact w1
                · rw [List.getElem?_set_ne (Ne.symm hih)] at hg'
                  refine w2' b (fun z => hih ?_) _ (hdk i b g' hb hg')
                  subst z
                  exact nd_ix nda hb haa
              · rw [w2 D (Ne.symm da), upd_same]
              · intro b o _ _ hb e'
                exact w2' b (fun z => hb (z ▸ ama)) o e'
              · intro z
                have : s1 ∈ (g.filter fun s => decide (s ∉ hit)) := List.mem_filter.mpr ⟨hs1, decide_eq_true hs1'⟩
                rw [z] at this
                cases this
        · -- kept = {state: True for state in hit}
          have nas : ∀ b, H b = none → b ∉ as := fun b nb z => by
            obtain ⟨g', e'⟩ := hG.dict z
            rw [nb] at e'
            cases e'
          refine ⟨.ref ht, rfl, ht, rfl, ⟨_, .inl (.inl hht)⟩, fun D nD => ?_⟩
          refine dc_it (walk_list (K := K) (a := ht) (xs := vi hit)) (fun i H' => H' = upd H D (.dK (dk (hit.take i)))) rfl (fun i H' _ hW => ?_) (fun i x H1 H1' hi hW hY => ?_) (fun H1 hW => ?_)
          · rw [hW]
            exact .inl (.inl (same_new nD _ _ hht))
          · obtain ⟨rfl, hx⟩ := hY
            subst hW
            obtain ⟨s2, hs2, rfl⟩ := int_at hx
            refine ⟨rfl, lcyes ?_⟩
            refine ⟨.int (s2 : Int), rfl, _, Sum.inl (s2 : Int), rfl, upd_same, ?_, ?_⟩
            · rw [List.length_map, List.length_take]
              exact Nat.lt_of_le_of_lt (show min i hit.length ≤ 1000000 by omega) (by decide)
            · rw [upd_upd, putK_dk (notin_take nd hs2), ← take_snoc hs2]
          · subst hW
            have et : hit.take (vi hit).length = hit := List.take_of_length_le (by rw [List.length_map]; exact Nat.le_refl _)
            rw [et]
            have da : a ≠ D := ne_of_none ha nD
            have a1 : upd H D (.dK (dk hit)) a = some (.dK (dk g)) := same_new nD _ _ ha
            -- moved = {state: True for state in members if state not in kept}
            refine ⟨a, .dK (dk g), a1, trivial, fun od => ?_⟩
            refine ⟨.ref a, rfl, a, od, rfl, .inl ⟨dk g, upd_same, fun D2 nD2 => ?_⟩⟩
            have ad2 : a ≠ D2 := ne_of_none upd_same nD2
            have n2 : upd H D (.dK (dk hit)) D2 = none := by
              rw [upd_ne (Ne.symm ad2)] at nD2
              exact nD2
            have dd : D ≠ D2 := ne_of_none upd_same n2
            have n2' : H D2 = none := by
              rw [upd_ne (Ne.symm dd)] at n2
              exact n2
            refine dc_it walk_keys (fun i H' => H' = upd (upd (upd H D (.dK (dk hit))) a (.frz od (.dK (dk g)))) D2 (.dK (dk ((g.take i).filter fun s => decide (s ∉ hit))))) rfl (fun i H' _ hW => ?_) (fun i x H1 H1' hi hW hY => ?_) (fun H1 hW => ?_)
            · rw [hW, upd_ne ad2, upd_same]
            · obtain ⟨rfl, k, v, hkv, rfl⟩ := hY
              obtain ⟨s2, hs2, rfl, rfl⟩ := dk_get hkv
              subst hW
              have eD : upd (upd (upd H D (.dK (dk hit))) a (.frz od (.dK (dk g)))) D2 (.dK (dk ((g.take i).filter fun s => decide (s ∉ hit)))) D = some (.dK (dk hit)) := by
                rw [upd_ne dd, upd_ne (Ne.symm da), upd_same]
              refine ⟨rfl, .int (s2 : Int), rfl, .ref D, rfl, D, _, rfl, DGet.k (k := Sum.inl (s2 : Int)) eD, _, rfl, ?_⟩
              rw [valV_dk]
              by_cases hin : s2 ∈ hit
              · rw [if_pos hin]
                refine iteF ?_
                rw [take_snoc hs2, List.filter_append]
                have : ([s2].filter fun s => decide (s ∉ hit)) = [] := by simp [hin]
                rw [this, List.append_nil]
              · rw [if_neg hin]
                refine iteT ?_
                refine ⟨.int (s2 : Int), rfl, _, Sum.inl (s2 : Int), rfl, upd_same, ?_, ?_⟩
                · rw [List.length_map]
                  refine Nat.lt_of_le_of_lt (List.length_filter_le _ _) ?_
                  rw [List.length_take]
                  exact Nat.lt_of_le_of_lt (show min i g.length ≤ 1000000 by omega) (by decide)
                · rw [upd_upd, take_snoc hs2, List.filter_append]
                  have : ([s2].filter fun s => decide (s ∉ hit)) = [s2] := by simp [hin]
                  rw [this, putK_dk]
                  intro z
                  exact notin_take ndg hs2 (List.mem_filter.mp z).1
            · subst hW
              have etg : g.take (dk g).length = g := List.take_of_length_le (by rw [List.length_map]; exact Nat.le_refl _)
              rw [etg]
              refine ⟨by rw [upd_ne ad2, upd_same], ?_⟩
              -- groups[home] = kept
              have eb : ∀ b, b ≠ a → b ≠ D → b ≠ D2 → upd (upd (upd (upd H D (.dK (dk hit))) a (.frz od (.dK (dk g)))) D2 (.dK (dk (g.filter fun s => decide (s ∉ hit))))) a (.dK (dk g)) b = H b := fun b h1 h2 h3 => by
                rw [upd_ne h1, upd_ne h3, upd_ne h1, upd_ne h2]
              have gD : gr ≠ D := ne_of_none hgr nD
              have gD2 : gr ≠ D2 := ne_of_none hgr n2'
              refine ⟨.ref D, rfl, .ref gr, rfl, .int (home : Int), rfl, gr, vr as, (home : Int), home, rfl, rfl, ?_, ixN_nat ?_, ?_⟩
              · rw [eb gr (Ne.symm nga) gD gD2]
                exact hgr
              · rw [List.length_map]
                omega
              · rw [vr_set]
                have nDas := nas D nD
                have nD2as := nas D2 n2'
                have eb2 : ∀ b, b ≠ gr → b ≠ a → b ≠ D → b ≠ D2 → upd (upd (upd (upd (upd H D (.dK (dk hit))) a (.frz od (.dK (dk g)))) D2 (.dK (dk (g.filter fun s => decide (s ∉ hit))))) a (.dK (dk g))) gr (.lst (vr (as.set home D))) b = H b := fun b h0 h1 h2 h3 => by
                  rw [upd_ne h0]
                  exact eb b h1 h2 h3
                have ins : ∀ b, b ∈ as.set home D → b ∈ as ∨ b = D := fun b hb => List.mem_or_eq_of_mem_set hb
                refine ⟨D2, as.set home D, hit, g.filter fun s => decide (s ∉ hit), _, _, _, rfl, ⟨upd_same, nodup_set nda nDas, by rw [List.length_set, List.length_set]; exact hlen, fun i b g' hb hg' => ?_⟩, ?_, ?_, n2', ?_, ?_, ?_, nd, ndg.filter _, h0, ?_, ?_, .inr ⟨fun s => ⟨fun z => ⟨hsg s z, z⟩, fun z => z.2⟩, fun s => by rw [List.mem_filter, decide_eq_true_iff]⟩⟩
                · by_cases hih : i = home
                  · subst hih
                    rw [List.getElem?_set_self hhome] at hg'
                    rw [List.getElem?_set_self (by omega)] at hb
                    cases hg'
                    cases hb
                    rw [upd_ne (Ne.symm gD), upd_ne (Ne.symm da), upd_ne dd, upd_ne (Ne.symm da), upd_same]
                  · rw [List.getElem?_set_ne (Ne.symm hih)] at hg' hb
                    have e3 := hdk i b g' hb hg'
                    rw [eb2 b (ne_of e3 hgr (by intro z; cases z)) (fun z => hih (by subst z; exact nd_ix nda hb haa)) (ne_of_none e3 nD) (ne_of_none e3 n2')]
                    exact e3
                · rw [eb2 ho (Ne.symm ngh) (Ne.symm nha) (ne_of_none hho nD) (ne_of_none hho n2')]
                  exact hho
                · rw [upd_ne (Ne.symm gD2), upd_ne (Ne.symm ad2), upd_same]
                · intro z
                  rcases ins _ z with y | y
                  · exact nD2as y
                  · exact dd y.symm
                · intro b o h1 h2 h3 e3
                  rw [eb2 b h1 (fun z => h3 (z ▸ ama)) (ne_of_none e3 nD) (ne_of_none e3 n2')]
                  exact e3
                · intro b hb
                  rcases ins _ hb with y | y
                  · exact .inl y
                  · exact .inr (y ▸ nD)
                · intro z
                  have : s1 ∈ (g.filter fun s => decide (s ∉ hit)) := List.mem_filter.mpr ⟨hs1, decide_eq_true hs1'⟩
                  rw [z] at this
                  cases this
                · exact Nat.le_trans (List.length_filter_le _ _) lg
      · obtain ⟨dm, as2, rest, mv, y4, y6, y7, rfl, ⟨hgr2, nda2, hlen2, hdk2⟩, hho2, hdm, ndm, dmas, off2, ins2, nr, nm, r0, m0, lm, hmv⟩ := hM
        have sp := part_split hP hg nr nm r0 m0 hmv
        have mvg : ∀ s, s ∈ mv → s ∈ g := fun s hs => by
          rcases hmv with h | h
          · exact ((h.1 s).mp hs).1
          · exact ((h.2 s).mp hs).1
        have mvl : ∀ s, s ∈ mv → s < hl.length := fun s hs => (List.getElem?_eq_some_iff.mp ((gm s).mp (mvg s hs))).1
        have ndg1 : dm ≠ gr := ne_of hdm hgr2 (by intro z; cases z)
        have ndh1 : dm ≠ ho := ne_of hdm hho2 (by intro z; cases z)
        rw [List.length_set] at hlen2
        -- for state in moved: homes[state] = len(groups)
        refine ⟨dm, .dK (dk mv), hdm, trivial, fun od => ?_⟩
        refine ⟨.ref dm, rfl, dm, od, rfl, .inl ⟨dk mv, upd_same, ?_⟩⟩
        refine for_it walk_keys (fun i σ H1 => (H1 ho = some (.lst (vi (rehome hl (mv.take i) gs.length))) ∧ ∀ b, b ≠ ho → H1 b = upd H' dm (.frz od (.dK (dk mv))) b) ∧ ∃ y6, σ = [some (.ref gr), some (.ref ho), some (.int (home : Int)), some (.ref ht), y4, some (.ref dm), y6, y7]) ⟨⟨?_, fun _ _ => rfl⟩, y6, rfl⟩ (fun i σ H1 _ hW => ?_) (fun i x σ H1 H1' hi hW hY => ?_) (fun σ H1 hW => ?_)
        · rw [upd_ne (Ne.symm ndh1)]
          exact hho2
        · rw [hW.1.2 dm ndh1, upd_same]
        · obtain ⟨⟨w1, w2⟩, y6, rfl⟩ := hW
          obtain ⟨rfl, k, v, hkv, rfl⟩ := hY
          obtain ⟨s2, hs2, rfl, rfl⟩ := dk_get hkv
          have g1 : H1' gr = some (.lst (vr as2)) := by
            rw [w2 gr ngh, upd_ne (Ne.symm ndg1)]
            exact hgr2
          refine ⟨.ref gr, rfl, gr, _, rfl, .inl (.inl (.inl g1)), .ref ho, rfl, .int (s2 : Int), rfl, ho, _, (s2 : Int), s2, rfl, rfl, w1, ixN_nat ?_, ⟨?_, ?_⟩, some (.int (s2 : Int)), rfl⟩
          · rw [List.length_map, rehome_len]
            exact mvl _ (List.mem_of_getElem? hs2)
          · rw [upd_same, List.length_map, hlen2, vi_set, ← rehome_snoc, ← take_snoc hs2]
          · intro b hb
            rw [upd_ne hb]
            exact w2 b hb
        · obtain ⟨⟨w1, w2⟩, y6, rfl⟩ := hW
          have etm : mv.take (dk mv).length = mv := List.take_of_length_le (by rw [List.length_map]; exact Nat.le_refl _)
          rw [etm] at w1
          refine ⟨by rw [w2 dm ndh1, upd_same], ?_⟩
          have g1 : upd H1 dm (.dK (dk mv)) gr = some (.lst (vr as2)) := by
            rw [upd_ne (Ne.symm ndg1), w2 gr ngh, upd_ne (Ne.symm ndg1)]
            exact hgr2
          -- groups.append(moved)
          refine ⟨.ref gr, rfl, .inl ⟨rfl, _, .inl (.inl g1)⟩, .ref dm, rfl, gr, _, _, rfl, rfl, g1, ?_, ?_⟩
          · rw [List.length_map, hlen2]
            have := hP.many
            exact Nat.lt_of_le_of_lt (show gs.length ≤ 1000000 by omega) (by decide)
          · rw [vr_snoc]
            have eb : ∀ b, b ≠ gr → b ≠ dm → b ≠ ho → upd (upd H1 dm (.dK (dk mv))) gr (.lst (vr (as2 ++ [dm]))) b = H' b := fun b h1 h2 h3 => by
              rw [upd_ne h1, upd_ne h2, w2 b h3, upd_ne h2]
            refine q _ (as2 ++ [dm]) (gs.set home rest ++ [mv]) (rehome hl mv gs.length) ⟨upd_same, ?_, ?_, fun i b g' hb hg' => ?_⟩ ?_ sp ?_ ?_
            · refine List.nodup_append.mpr ⟨nda2, by simp, fun x hx y hy e' => ?_⟩
              rw [List.mem_singleton.mp hy] at e'
              exact dmas (e' ▸ hx)
            · rw [List.length_append, List.length_append, List.length_set, hlen2]
              rfl
            · by_cases hi2 : i < as2.length
              · rw [List.getElem?_append_left hi2] at hb
                rw [List.getElem?_append_left (by rw [List.length_set]; omega)] at hg'
                have e3 := hdk2 i b g' hb hg'
                rw [eb b (ne_of e3 hgr2 (by intro z; cases z)) (fun z => dmas (z ▸ List.mem_of_getElem? hb)) (ne_of e3 hho2 (by intro z; cases z))]
                exact e3
              · rw [List.getElem?_append_right (by omega)] at hb
                rw [List.getElem?_append_right (by rw [List.length_set]; omega), List.length_set] at hg'
                have e0 : i - as2.length = 0 := by
                  cases z : i - as2.length with
                  | zero => rfl
                  | succ k =>
                    rw [z] at hb
                    simp at hb
                have e1 : i - gs.length = 0 := by omega
                rw [e0] at hb
                rw [e1] at hg'
                cases hb
                cases hg'
                rw [upd_ne ndg1, upd_same]
            · rw [upd_ne (Ne.symm ngh), upd_ne (Ne.symm ndh1)]
              exact w1
            · intro b o h1 h2 h3 e3
              rw [eb b h1 (ne_of_none e3 ndm) h2]
              exact off2 b o h1 h2 h3 e3
            · intro b hb
              rcases List.mem_append.mp hb with y | y
              · exact ins2 b y
              · exact .inr ((List.mem_singleton.mp y) ▸ ndm)
end
end LH

namespace LH
open PySem PySem.Spec PyProof.Rows L2
/-! ### hits_of: states by their homes -/
abbrev Ent := Nat × Addr × List Nat
abbrev ek (es : List Ent) : List (Key × V) := es.map fun (e : Ent) => (Sum.inl (e.1 : Int), V.ref e.2.1)
theorem valV_ek (h : Nat) : ∀ es : List Ent, valV (ek es) (Sum.inl (h : Int) : Key) = (es.find? fun e => decide (e.1 = h)).map fun e => V.ref e.2.1
  | [] => rfl
  | e :: r => by
    show valV ((Sum.inl (e.1 : Int), V.ref e.2.1) :: ek r) (Sum.inl (h : Int) : Key) = _
    by_cases q : e.1 = h
    · subst q
      rw [valV_pos rfl, List.find?_cons]
      simp
    · rw [valV_neg (fun z => q (by have := Sum.inl.inj z; omega)), valV_ek h r, List.find?_cons]
      simp [q]
theorem putK_ek {es : List Ent} {h : Nat} {l : Addr} (hn : (es.find? fun e => decide (e.1 = h)) = none) : putK (ek es) (Sum.inl (h : Int) : Key) (.ref l) = ek (es ++ [(h, l, [])]) := by
  unfold putK
  rw [valV_any, valV_ek, hn, if_neg (by decide)]
  show _ = List.map _ (es ++ [(h, l, [])])
  rw [List.map_append]
  rfl
structure HitsOk (H : Hp) (es : List Ent) (hl pre : List Nat) : Prop where
  nd : (es.map (·.1)).Nodup
  na : (es.map (·.2.1)).Nodup
  at_ : ∀ e ∈ es, H e.2.1 = some (.lst (vi e.2.2))
  eq : ∀ e ∈ es, e.2.2 = pre.filter fun s => decide (hl[s]? = some e.1)
  ne : ∀ e ∈ es, e.2.2 ≠ []
  all : ∀ s ∈ pre, ∃ e ∈ es, hl[s]? = some e.1
/-- ahead of the append: the entry of h is there, perhaps empty -/
structure HitsMid (H : Hp) (es1 es2 : List Ent) (l : Addr) (h : Nat) (xs hl pre : List Nat) : Prop where
  nd : ((es1 ++ (h, l, xs) :: es2).map (·.1)).Nodup
  na : ((es1 ++ (h, l, xs) :: es2).map (·.2.1)).Nodup
  at_ : ∀ e ∈ es1 ++ (h, l, xs) :: es2, H e.2.1 = some (.lst (vi e.2.2))
  eq : ∀ e ∈ es1 ++ (h, l, xs) :: es2, e.2.2 = pre.filter fun s => decide (hl[s]? = some e.1)
  ne : ∀ e ∈ es1 ++ es2, e.2.2 ≠ []
  all : ∀ s ∈ pre, ∃ e ∈ es1 ++ (h, l, xs) :: es2, hl[s]? = some e.1
theorem HitsMid.step {H H' : Hp} {es1 es2 : List Ent} {l : Addr} {h s : Nat} {xs hl pre : List Nat} (m : HitsMid H es1 es2 l h xs hl pre) (hs : hl[s]? = some h) (h1 : H' l = some (.lst (vi (xs ++ [s])))) (h2 : ∀ b o, b ≠ l → H b = some o → H' b = some o) : HitsOk H' (es1 ++ (h, l, xs ++ [s]) :: es2) hl (pre ++ [s]) := by
  have keys : ∀ {ys : List Nat}, (es1 ++ (h, l, ys) :: es2).map (fun e : Ent => e.1) = (es1 ++ (h, l, xs) :: es2).map (fun e : Ent => e.1) := fun {ys} => by simp
  have adrs : ∀ {ys : List Nat}, (es1 ++ (h, l, ys) :: es2).map (fun e : Ent => e.2.1) = (es1 ++ (h, l, xs) :: es2).map (fun e : Ent => e.2.1) := fun {ys} => by simp
  have inm : ∀ e ∈ es1 ++ es2, e ∈ es1 ++ (h, l, xs) :: es2 := fun e he => by
    rcases List.mem_append.mp he with z | z
    · exact List.mem_append_left _ z
    · exact List.mem_append_right _ (List.mem_cons_of_mem _ z)
  have dif : ∀ e ∈ es1 ++ es2, e.1 ≠ h ∧ e.2.1 ≠ l := fun e he => by
    have n1 := m.nd
    have n2 := m.na
    rw [List.map_append, List.map_cons, List.nodup_append, List.nodup_cons] at n1 n2
    rcases List.mem_append.mp he with z | z
    · exact ⟨fun q => n1.2.2 _ (List.mem_map_of_mem z) _ (List.mem_cons_self ..) q, fun q => n2.2.2 _ (List.mem_map_of_mem z) _ (List.mem_cons_self ..) q⟩
    · exact ⟨fun q => n1.2.1.1 (List.mem_map.mpr ⟨e, z, q⟩), fun q => n2.2.1.1 (List.mem_map.mpr ⟨e, z, q⟩)⟩
  have cases_ : ∀ e ∈ es1 ++ (h, l, xs ++ [s]) :: es2, e = (h, l, xs ++ [s]) ∨ e ∈ es1 ++ es2 := fun e he => by
    rcases List.mem_append.mp he with z | z
    · exact .inr (List.mem_append_left _ z)
    · rcases List.mem_cons.mp z with y | y
      · exact .inl y
      · exact .inr (List.mem_append_right _ y)
  have self : (h, l, xs) ∈ es1 ++ (h, l, xs) :: es2 := List.mem_append_right _ (List.mem_cons_self ..)
  have self' : (h, l, xs ++ [s]) ∈ es1 ++ (h, l, xs ++ [s]) :: es2 := List.mem_append_right _ (List.mem_cons_self ..)
  refine ⟨by rw [keys]; exact m.nd, by rw [adrs]; exact m.na, fun e he => ?_, fun e he => ?_, fun e he => ?_, fun t ht => ?_⟩
  · rcases cases_ e he with rfl | z
    · exact h1
    · exact h2 _ _ (dif e z).2 (m.at_ e (inm e z))
  · rw [List.filter_append]
    rcases cases_ e he with rfl | z
    · have e1 := m.eq _ self
      have : ([s].filter fun s => decide (hl[s]? = some h)) = [s] := by simp [hs]
      show xs ++ [s] = _
      rw [this]
      congr 1
    · have : ([s].filter fun s => decide (hl[s]? = some e.1)) = [] := by
        simp [hs]
        exact fun q => (dif e z).1 q.symm
      rw [this, List.append_nil]
      exact m.eq e (inm e z)
  · rcases cases_ e he with rfl | z
    · show xs ++ [s] ≠ []
      simp
    · exact m.ne e z
  · rcases List.mem_append.mp ht with z | z
    · obtain ⟨e, he, q⟩ := m.all t z
      rcases List.mem_append.mp he with y | y
      · exact ⟨e, List.mem_append_left _ y, q⟩
      · rcases List.mem_cons.mp y with rfl | y
        · exact ⟨_, self', q⟩
        · exact ⟨e, List.mem_append_right _ (List.mem_cons_of_mem _ y), q⟩
    · rw [List.mem_singleton.mp z]
      exact ⟨_, self', hs⟩
def flat (ws : List (List Nat)) (tl : List Nat) : List Nat := (tl.map fun t => ws.getD t []).flatten
theorem flat_snoc (ws : List (List Nat)) (tl : List Nat) (t : Nat) : flat ws (tl ++ [t]) = flat ws tl ++ ws.getD t [] := by
  unfold flat
  rw [List.map_append, List.flatten_append]
  simp
def LolAt (H : Hp) (bk : Addr) (bs : List Addr) (ws : List (List Nat)) : Prop := H bk = some (.lst (vr bs)) ∧ bs.length = ws.length ∧ ∀ (i : Nat) (b : Addr) (w : List Nat), bs[i]? = some b → ws[i]? = some w → H b = some (.lst (vi w))
theorem LolAt.same {H H' : Hp} {bk : Addr} {bs : List Addr} {ws : List (List Nat)} (h : LolAt H bk bs ws) (e : Same H H') : LolAt H' bk bs ws := ⟨e _ _ h.1, h.2.1, fun i b w x y => e _ _ (h.2.2 i b w x y)⟩
theorem LolAt.get {H : Hp} {bk : Addr} {bs : List Addr} {ws : List (List Nat)} (h : LolAt H bk bs ws) {t : Nat} (ht : t < ws.length) : ∃ b, (vr bs)[t]? = some (.ref b) ∧ H b = some (.lst (vi (ws.getD t []))) := by
  have hb : t < bs.length := by
    rw [h.2.1]
    exact ht
  refine ⟨bs[t], ?_, ?_⟩
  · rw [List.getElem?_map, List.getElem?_eq_getElem hb]
    rfl
  · refine h.2.2 t _ _ (List.getElem?_eq_getElem hb) ?_
    rw [List.getD_eq_getElem?_getD, List.getElem?_eq_getElem ht]
    rfl
theorem flat_take {ws : List (List Nat)} {tl : List Nat} {i t : Nat} (h : tl[i]? = some t) : ∃ post, flat ws tl = flat ws (tl.take i) ++ (ws.getD t [] ++ post) := by
  refine ⟨flat ws (tl.drop (i + 1)), ?_⟩
  have hi := (List.getElem?_eq_some_iff.mp h).1
  have e : tl = tl.take i ++ t :: tl.drop (i + 1) := by
    conv => lhs; rw [← List.take_append_drop i tl, List.drop_eq_getElem_cons hi]
    congr 2
    exact (List.getElem?_eq_some_iff.mp h).2
  conv => lhs; rw [e]
  unfold flat
  rw [List.map_append, List.flatten_append, List.map_cons, List.flatten_cons]
section
variable {P : Program} {w : World} {K : PySem.W.Frag} {mg : Str → Option Value} {base : Heap}
def sp_hits_of : Sp := fun vs H Q _ => ∃ (bk tg ho : Addr) (bs : List Addr) (ws : List (List Nat)) (tl hl : List Nat), vs = [.ref bk, .ref tg, .ref ho] ∧ LolAt H bk bs ws ∧ H tg = some (.lst (vi tl)) ∧ H ho = some (.lst (vi hl)) ∧ (∀ t ∈ tl, t < ws.length) ∧ (∀ s ∈ flat ws tl, s < hl.length) ∧ (flat ws tl).length ≤ 1000000 ∧
  ∀ H' hd (es : List Ent), Same H H' → H hd = none → H' hd = some (.dK (ek es)) → HitsOk H' es hl (flat ws tl) → (∀ e ∈ es, H e.2.1 = none) → Q (.ref hd) H'
theorem len_ents {es : List Ent} {hl pre : List Nat} (nd : (es.map (·.1)).Nodup) (eq : ∀ e ∈ es, e.2.2 = pre.filter fun s => decide (hl[s]? = some e.1)) (ne : ∀ e ∈ es, e.2.2 ≠ []) : es.length ≤ pre.length := by
  -- each entry's home is the home of some state
  have key : (es.map fun e : Ent => e.1).length ≤ (pre.map fun s => hl.getD s 0).length := len_le_of_sub nd fun x hx => by
    obtain ⟨e, he, rfl⟩ := List.mem_map.mp hx
    have h1 := ne e he
    rw [eq e he] at h1
    obtain ⟨s, hs⟩ := List.exists_mem_of_ne_nil _ h1
    obtain ⟨hs1, hs2⟩ := List.mem_filter.mp hs
    refine List.mem_map.mpr ⟨s, hs1, ?_⟩
    rw [List.getD_eq_getElem?_getD, of_decide_eq_true hs2]
    rfl
  rw [List.length_map, List.length_map] at key
  exact key
theorem ok_hits_of (T : TX K mg) : FnOk P w K mg base CX0 1 T.a_hits_of T.fd_hits_of ["back", "targets", "homes"] sp_hits_of := by
  refine T.F_hits_of.ok sc_hits_of (fun vs H Q E h => ?_) (fun cdv A outer s H vs Q E hr h => ?_)
  · obtain ⟨bk, tg, ho, bs, ws, tl, hl, rfl, _⟩ := h
    rfl
  · obtain ⟨bk, tg, ho, bs, ws, tl, hl, rfl, hB, htg, hho, htl, hfl, hbd, q⟩ := h
    refine ⟨_, (pss_cons (ps_set (i := 3) sc_hits_of.nd rfl (Or.inl rfl) pe_dnewK)
      (pss_cons (ps_for PassesOwn.never rfl (pi_listK K rfl (pv 1)) (pg_name (i := 4) sc_hits_of.nd rfl (Or.inl rfl))
        (pss_one (ps_for PassesOwn.never rfl (pi_listK K rfl (pe_ix (ix_listK K rfl) (pv 0) (pv 4) (fun _ _ => rfl))) (pg_name (i := 5) sc_hits_of.nd rfl (Or.inl rfl))
            (pss_cons (ps_set (i := 6) sc_hits_of.nd rfl (Or.inl rfl) (pe_ix (ix_listK K rfl) (pv 2) (pv 5) (fun _ _ => rfl)))
              (C8.pss_cut (ps_if (pt_cmp (pc_dnotin (hu_of hr) (pv 6) (pv 3)))
                (pss_one (ps_dput (hu_of hr) (pv 3) (pv 6) (pe_lst pa_nil) rfl))
                pss_nil)
              (pss_one (ps_expr (pe_bmK K rfl PySem.F.plainAttrs_list PySem.F.slot_list_append PySem.F.type_list_append mt_append (pe_dget (hu_of hr) (pv 3) (pv 6) (fun _ _ => rfl)) (pa_cons (pv 5) pa_nil)))))))))
      (pss_one (ps_ret (pv 3))))), ?_⟩
    refine fun hd nhd => ?_
    refine ⟨.ref tg, rfl, tg, rfl, ⟨_, .inl (.inl (same_new nhd _ _ htg))⟩, ?_⟩
    refine for_it (walk_list (K := K) (a := tg) (xs := vi tl)) (fun i σ H' => (∃ es, Same H H' ∧ H' hd = some (.dK (ek es)) ∧ HitsOk H' es hl (flat ws (tl.take i)) ∧ ∀ e ∈ es, H e.2.1 = none) ∧ ∃ y4 y5 y6, σ = [some (.ref bk), some (.ref tg), some (.ref ho), some (.ref hd), y4, y5, y6]) ⟨⟨[], same_new nhd, upd_same, ⟨List.nodup_nil, List.nodup_nil, (fun _ h => nomatch h), (fun _ h => nomatch h), (fun _ h => nomatch h), (fun _ h => nomatch h)⟩, fun _ h => nomatch h⟩, none, none, none, rfl⟩ (fun i σ H' _ hW => ?_) (fun i x σ H1 H1' hi hW hY => ?_) (fun σ H1 hW => ?_)
    · obtain ⟨⟨es, sm, _⟩, _⟩ := hW
      exact .inl (.inl (sm _ _ htg))
    · obtain ⟨⟨es, sm, ed, ok, fr⟩, y4, y5, y6, rfl⟩ := hW
      obtain ⟨rfl, hx⟩ := hY
      obtain ⟨t, ht, rfl⟩ := int_at hx
      have htw := htl t (List.mem_of_getElem? ht)
      obtain ⟨post, ef⟩ := flat_take (ws := ws) ht
      obtain ⟨b, hb1, hb2⟩ := hB.get htw
      -- for state in back[target]
      refine ⟨.ref bk, rfl, .int (t : Int), rfl, bk, _, (t : Int), .ref b, rfl, rfl, .inl (.inl (sm _ _ hB.1)), atI_nat hb1, b, rfl, ⟨_, .inl (.inl (sm _ _ hb2))⟩, ?_⟩
      refine for_it (walk_list (K := K) (a := b) (xs := vi (ws.getD t []))) (fun j σ H' => (∃ es, Same H H' ∧ H' hd = some (.dK (ek es)) ∧ HitsOk H' es hl (flat ws (tl.take i) ++ (ws.getD t []).take j) ∧ ∀ e ∈ es, H e.2.1 = none) ∧ ∃ y5 y6, σ = [some (.ref bk), some (.ref tg), some (.ref ho), some (.ref hd), some (.int (t : Int)), y5, y6]) ⟨⟨es, sm, ed, by rw [List.take_zero, List.append_nil]; exact ok, fr⟩, y5, y6, rfl⟩ (fun j σ H' _ hW => ?_) (fun j x σ H2 H2' hj hW hY => ?_) (fun σ H2 hW => ?_)
      · obtain ⟨⟨es, sm, _⟩, _⟩ := hW
        exact .inl (.inl (sm _ _ hb2))
      · obtain ⟨⟨es, sm, ed, ok, fr⟩, y5, y6, rfl⟩ := hW
        obtain ⟨rfl, hx⟩ := hY
        obtain ⟨u, hu, rfl⟩ := int_at hx
        have huf : u ∈ flat ws tl := by
          rw [ef]
          exact List.mem_append_right _ (List.mem_append_left _ (List.mem_of_getElem? hu))
        have hul := hfl u huf
        have hh : hl[u]? = some hl[u] := List.getElem?_eq_getElem hul
        generalize hl[u] = h at hh
        have hv : (vi hl)[u]? = some (.int (h : Int)) := by
          rw [List.getElem?_map, hh]
          rfl
        have ll : es.length ≤ 1000000 := by
          have := len_ents ok.nd ok.eq ok.ne
          have hle : (flat ws (List.take i tl) ++ List.take j (ws.getD t [])).length ≤ (flat ws tl).length := by
            rw [ef, List.length_append, List.length_append, List.length_append, List.length_take]
            omega
          omega
        -- home = homes[state]
        refine ⟨.ref ho, rfl, .int (u : Int), rfl, ho, _, (u : Int), .int (h : Int), rfl, rfl, .inl (.inl (sm _ _ hho)), atI_nat hv, ?_⟩
        refine ⟨fun σ' H' => ∃ es1 es2 l xs, σ' = [some (.ref bk), some (.ref tg), some (.ref ho), some (.ref hd), some (.int (t : Int)), some (.int (u : Int)), some (.int (h : Int))] ∧ Same H H' ∧ H' hd = some (.dK (ek (es1 ++ (h, l, xs) :: es2))) ∧ HitsMid H' es1 es2 l h xs hl (flat ws (tl.take i) ++ (ws.getD t []).take j) ∧ (∀ e ∈ es1 ++ (h, l, xs) :: es2, H e.2.1 = none) ∧ xs.length ≤ 1000000, ?_, fun σ' H' hM => ?_⟩
        · refine ⟨.int (h : Int), rfl, .ref hd, rfl, hd, _, rfl, DGet.k (k := Sum.inl (h : Int)) ed, _, rfl, ?_⟩
          rw [valV_ek]
          cases ef2 : es.find? fun e => decide (e.1 = h) with
          | none =>
            refine iteT ?_
            refine ⟨by show 0 ≤ sizeLine; decide, fun l nl => ?_⟩
            have dl : hd ≠ l := ne_of_none ed nl
            have fl : H l = none := sm.free nl
            have hn := List.find?_eq_none.mp ef2
            refine ⟨.ref hd, rfl, .int (h : Int), rfl, hd, _, rfl, DPut.k (k := Sum.inl (h : Int)) (by rw [upd_ne dl]; exact ed) ?_, es, [], l, [], rfl, ?_, ?_, ⟨?_, ?_, fun e he => ?_, fun e he => ?_, fun e he => ?_, fun s0 hs0 => ?_⟩, fun e he => ?_, by show 0 ≤ 1000000; decide⟩
            · rw [List.length_map]
              exact Nat.lt_of_le_of_lt ll (by decide)
            · intro b o e
              rw [upd_ne (ne_of_none e nhd), upd_ne (ne_of_none e fl)]
              exact sm b o e
            · rw [upd_same, putK_ek ef2]
            · rw [List.map_append, List.nodup_append]
              refine ⟨ok.nd, by simp, fun x hx y hy e => ?_⟩
              obtain ⟨e1, he1, rfl⟩ := List.mem_map.mp hx
              have : y = h := by simpa using hy
              exact hn e1 he1 (decide_eq_true (e.trans this))
            · rw [List.map_append, List.nodup_append]
              refine ⟨ok.na, by simp, fun x hx y hy e => ?_⟩
              obtain ⟨e1, he1, rfl⟩ := List.mem_map.mp hx
              have : y = l := by simpa using hy
              exact ne_of_none (ok.at_ e1 he1) nl (e.trans this)
            · rcases List.mem_append.mp he with z | z
              · have e3 := ok.at_ e z
                rw [upd_ne (ne_of e3 ed (by intro z; cases z)), upd_ne (ne_of_none e3 nl)]
                exact e3
              · rw [List.mem_singleton.mp z]
                show upd _ hd _ l = _
                rw [upd_ne (Ne.symm dl), upd_same]
                rfl
            · rcases List.mem_append.mp he with z | z
              · exact ok.eq e z
              · rw [List.mem_singleton.mp z]
                refine (List.filter_eq_nil_iff.mpr fun s0 hs0 => ?_).symm
                intro hd0
                obtain ⟨e1, he1, q1⟩ := ok.all s0 hs0
                have : hl[s0]? = some h := of_decide_eq_true hd0
                rw [this] at q1
                exact hn e1 he1 (decide_eq_true (Option.some.inj q1).symm)
            · rw [List.append_nil] at he
              exact ok.ne e he
            · obtain ⟨e1, he1, q1⟩ := ok.all s0 hs0
              exact ⟨e1, List.mem_append_left _ he1, q1⟩
            · rcases List.mem_append.mp he with z | z
              · exact fr e z
              · rw [List.mem_singleton.mp z]
                exact fl
          | some e0 =>
            refine iteF ?_
            have he0 := List.mem_of_find?_eq_some ef2
            have hk1 := List.find?_some ef2
            have hk0 : e0.1 = h := of_decide_eq_true hk1
            obtain ⟨h0, l, xs⟩ := e0
            have hk0 : h0 = h := hk0
            subst hk0
            obtain ⟨es1, es2, rfl⟩ := List.append_of_mem he0
            refine ⟨es1, es2, l, xs, rfl, sm, ed, ⟨ok.nd, ok.na, ok.at_, ok.eq, fun e he => ok.ne e ?_, ok.all⟩, fr, ?_⟩
            · rcases List.mem_append.mp he with z | z
              · exact List.mem_append_left _ z
              · exact List.mem_append_right _ (List.mem_cons_of_mem _ z)
            · have := ok.eq _ he0
              have hx : xs = _ := this
              rw [hx]
              refine Nat.le_trans (List.length_filter_le _ _) ?_
              have hle : (flat ws (List.take i tl) ++ List.take j (ws.getD t [])).length ≤ (flat ws tl).length := by
                rw [ef, List.length_append, List.length_append, List.length_append, List.length_take]
                omega
              omega
        · obtain ⟨es1, es2, l, xs, rfl, sm, ed, mid, fr, lx⟩ := hM
          have self : (h, l, xs) ∈ es1 ++ (h, l, xs) :: es2 := List.mem_append_right _ (List.mem_cons_self ..)
          have hlx := mid.at_ _ self
          have fl := fr _ self
          have dl : hd ≠ l := ne_of ed hlx (by intro z; cases z)
          have vh : valV (ek (es1 ++ (h, l, xs) :: es2)) (Sum.inl (h : Int) : Key) = some (.ref l) := by
            rw [valV_ek, List.find?_append]
            have : (es1.find? fun e => decide (e.1 = h)) = none := List.find?_eq_none.mpr fun e he hd0 => by
              have n1 := mid.nd
              rw [List.map_append, List.map_cons, List.nodup_append] at n1
              exact n1.2.2 _ (List.mem_map_of_mem he) _ (List.mem_cons_self ..) (of_decide_eq_true hd0)
            rw [this, List.find?_cons]
            simp
          -- hits[home].append(state)
          refine ⟨.ref hd, rfl, .int (h : Int), rfl, hd, .ref l, rfl, ?_, .inl ⟨rfl, _, .inl (.inl hlx)⟩, .int (u : Int), rfl, l, _, _, rfl, rfl, hlx, ?_, ⟨es1 ++ (h, l, xs ++ [u]) :: es2, ?_, ?_, ?_, ?_⟩, _, _, rfl⟩
          · have := DGet.k (k := Sum.inl (h : Int)) ed
            rw [vh] at this
            exact this
          · rw [List.length_map]
            exact Nat.lt_of_le_of_lt lx (by decide)
          · intro b o e
            rw [upd_ne (ne_of_none e fl)]
            exact sm b o e
          · rw [upd_ne dl, ed]
            congr 2
            show List.map _ _ = List.map _ _
            simp
          · rw [take_snoc hu, ← List.append_assoc]
            refine mid.step hh ?_ fun b o n e => ?_
            · rw [upd_same, vi_snoc]
            · rw [upd_ne n]
              exact e
          · intro e he
            rcases List.mem_append.mp he with z | z
            · exact fr e (List.mem_append_left _ z)
            · rcases List.mem_cons.mp z with rfl | z
              · exact fl
              · exact fr e (List.mem_append_right _ (List.mem_cons_of_mem _ z))
      · obtain ⟨⟨es, sm, ed, ok, fr⟩, y5, y6, rfl⟩ := hW
        have et : (ws.getD t []).take (vi (ws.getD t [])).length = ws.getD t [] := List.take_of_length_le (by rw [List.length_map]; exact Nat.le_refl _)
        rw [et] at ok
        rw [take_snoc ht, flat_snoc]
        exact ⟨⟨es, sm, ed, ok, fr⟩, _, _, _, rfl⟩
    · obtain ⟨⟨es, sm, ed, ok, fr⟩, y4, y5, y6, rfl⟩ := hW
      have et : tl.take (vi tl).length = tl := List.take_of_length_le (by rw [List.length_map]; exact Nat.le_refl _)
      rw [et] at ok
      exact ⟨.ref hd, rfl, q H1 hd es sm nhd ed ok fr⟩
end
end LH

namespace LH
open PySem PySem.Spec PyProof.Rows L2
/-! ### ways_back: for each column, for each state, where it is come from -/
def dl (rows : List (List Nat)) (s c : Nat) : Nat := (rows.getD s []).getD c 0
structure BK (H : Hp) (bk : Addr) (cs : List Addr) (bss : List (List Addr)) (n : Nat) (F : Nat → Nat → List Nat) : Prop where
  top : H bk = some (.lst (vr cs))
  len : cs.length = bss.length
  col : ∀ (c : Nat) (a : Addr) (bs : List Addr), cs[c]? = some a → bss[c]? = some bs → H a = some (.lst (vr bs)) ∧ bs.length = n
  cell : ∀ (c t : Nat) (bs : List Addr) (b : Addr), bss[c]? = some bs → bs[t]? = some b → H b = some (.lst (vi (F c t)))
  nd : bss.flatten.Nodup
theorem BK.same {H H' : Hp} {bk : Addr} {cs : List Addr} {bss : List (List Addr)} {n : Nat} {F : Nat → Nat → List Nat} (h : BK H bk cs bss n F) (e : Same H H') : BK H' bk cs bss n F := ⟨e _ _ h.top, h.len, fun c a bs x y => ⟨e _ _ (h.col c a bs x y).1, (h.col c a bs x y).2⟩, fun c t bs b x y => e _ _ (h.cell c t bs b x y), h.nd⟩
theorem flat_ix {α : Type} : ∀ {bss : List (List α)} {c c' t t' : Nat} {bs bs' : List α} {b : α}, bss.flatten.Nodup → bss[c]? = some bs → bss[c']? = some bs' → bs[t]? = some b → bs'[t']? = some b → c = c' ∧ t = t'
  | [], _, _, _, _, _, _, _, _, h, _, _, _ => by simp at h
  | x :: r, 0, 0, t, t', bs, bs', b, nd, h1, h2, h3, h4 => by
    cases h1
    cases h2
    rw [List.flatten_cons, List.nodup_append] at nd
    exact ⟨rfl, nd_ix nd.1 h3 h4⟩
  | x :: r, 0, c' + 1, t, t', bs, bs', b, nd, h1, h2, h3, h4 => by
    cases h1
    rw [List.flatten_cons, List.nodup_append] at nd
    exact absurd rfl (nd.2.2 b (List.mem_of_getElem? h3) b (List.mem_flatten.mpr ⟨bs', List.mem_of_getElem? (by simpa using h2), List.mem_of_getElem? h4⟩))
  | x :: r, c + 1, 0, t, t', bs, bs', b, nd, h1, h2, h3, h4 => by
    cases h2
    rw [List.flatten_cons, List.nodup_append] at nd
    exact absurd rfl (nd.2.2 b (List.mem_of_getElem? h4) b (List.mem_flatten.mpr ⟨bs, List.mem_of_getElem? (by simpa using h1), List.mem_of_getElem? h3⟩))
  | x :: r, c + 1, c' + 1, t, t', bs, bs', b, nd, h1, h2, h3, h4 => by
    rw [List.flatten_cons, List.nodup_append] at nd
    have := flat_ix (bss := r) (c := c) (c' := c') nd.2.1 (by simpa using h1) (by simpa using h2) h3 h4
    exact ⟨by omega, this.2⟩
/-- one list grows -/
theorem BK.put {H : Hp} {bk : Addr} {cs : List Addr} {bss : List (List Addr)} {n c t x : Nat} {F : Nat → Nat → List Nat} {bs : List Addr} {b : Addr} (h : BK H bk cs bss n F) (hc : bss[c]? = some bs) (ht : bs[t]? = some b) (n1 : 1 ≤ n) (l1 : 1 ≤ cs.length) : BK (upd H b (.lst (vi (F c t ++ [x])))) bk cs bss n (fun c' t' => if c' = c ∧ t' = t then F c t ++ [x] else F c' t') := by
  have hb := h.cell c t bs b hc ht
  have nref : ∀ {as : List Addr} {ns : List Nat}, 1 ≤ as.length → HO.lst (vr as) ≠ HO.lst (vi ns) := fun {as ns} l e => by
    cases as with
    | nil => simp at l
    | cons a r =>
      cases ns with
      | nil => cases e
      | cons m q => cases e
  refine ⟨?_, h.len, fun c' a bs' x y => ?_, fun c' t' bs' b' x y => ?_, h.nd⟩
  · rw [upd_ne (ne_of h.top hb (nref l1))]
    exact h.top
  · obtain ⟨z1, z2⟩ := h.col c' a bs' x y
    refine ⟨?_, z2⟩
    rw [upd_ne (ne_of z1 hb (nref (by omega)))]
    exact z1
  · by_cases e : c' = c ∧ t' = t
    · obtain ⟨rfl, rfl⟩ := e
      rw [hc] at x
      cases x
      rw [ht] at y
      cases y
      rw [upd_same]
      show _ = some (HO.lst (vi (if c' = c' ∧ t' = t' then F c' t' ++ [_] else F c' t')))
      rw [if_pos ⟨rfl, rfl⟩]
    · show _ = some (HO.lst (vi (if c' = c ∧ t' = t then F c t ++ [_] else F c' t')))
      rw [if_neg e]
      have nb : b' ≠ b := fun z => by
        subst z
        exact e (flat_ix h.nd x hc y ht)
      rw [upd_ne nb]
      exact h.cell c' t' bs' b' x y
theorem BK.congr {H : Hp} {bk : Addr} {cs : List Addr} {bss : List (List Addr)} {n : Nat} {F G : Nat → Nat → List Nat} (h : BK H bk cs bss n F) (e : ∀ c t, c < cs.length → F c t = G c t) : BK H bk cs bss n G := ⟨h.top, h.len, h.col, fun c t bs b x y => by
  rw [← e c t (by rw [h.len]; exact (List.getElem?_eq_some_iff.mp x).1)]
  exact h.cell c t bs b x y, h.nd⟩
def bkF (rows : List (List Nat)) (s c t : Nat) : List Nat := (List.range s).filter fun s' => decide (dl rows s' c = t)
theorem bkF_succ (rows : List (List Nat)) (s c t : Nat) : bkF rows (s + 1) c t = if dl rows s c = t then bkF rows s c t ++ [s] else bkF rows s c t := by
  unfold bkF
  rw [List.range_succ, List.filter_append]
  by_cases e : dl rows s c = t
  · rw [if_pos e]
    simp [e]
  · rw [if_neg e]
    simp [e]
structure TabOk (n L : Nat) (rows : List (List Nat)) : Prop where
  num : rows.length = n
  one : 1 ≤ n
  big : n ≤ 1000000
  l1 : 1 ≤ L
  l5 : L ≤ 5
  row : ∀ r ∈ rows, r.length = L ∧ ∀ t ∈ r, t < n
theorem TabOk.at_ {n L : Nat} {rows : List (List Nat)} (k : TabOk n L rows) {s : Nat} (h : s < n) : ∃ r, rows[s]? = some r ∧ rows.getD s [] = r ∧ r.length = L ∧ ∀ t ∈ r, t < n := by
  have hs : s < rows.length := by
    rw [k.num]
    exact h
  refine ⟨rows[s], List.getElem?_eq_getElem hs, ?_, k.row _ (List.getElem_mem hs)⟩
  rw [List.getD_eq_getElem?_getD, List.getElem?_eq_getElem hs]
  rfl
theorem TabOk.dl_lt {n L : Nat} {rows : List (List Nat)} (k : TabOk n L rows) {s c : Nat} (h : s < n) (hc : c < L) : dl rows s c < n := by
  obtain ⟨r, _, e, l, t⟩ := k.at_ h
  unfold dl
  rw [e, List.getD_eq_getElem?_getD, List.getElem?_eq_getElem (by omega)]
  exact t _ (List.getElem_mem _)
section
variable {P : Program} {w : World} {K : PySem.W.Frag} {mg : Str → Option Value} {base : Heap}
def sp_ways_back : Sp := fun vs H Q _ => ∃ (tb : Addr) (ras : List Addr) (rows : List (List Nat)) (n L : Nat), vs = [.ref tb] ∧ LolAt H tb ras rows ∧ TabOk n L rows ∧
  ∀ H' bk cs bss, Same H H' → H bk = none → (∀ a ∈ cs, H a = none) → (∀ b ∈ bss.flatten, H b = none) → cs.length = L → BK H' bk cs bss n (bkF rows n) → Q (.ref bk) H'
theorem ok_ways_back (T : TX K mg) : FnOk P w K mg base CX0 1 T.a_ways_back T.fd_ways_back ["table"] sp_ways_back := by
  refine T.F_ways_back.ok sc_ways_back (fun vs H Q E h => ?_) (fun cdv A outer s H vs Q E hr h => ?_)
  · obtain ⟨tb, ras, rows, n, L, rfl, _⟩ := h
    rfl
  · obtain ⟨tb, ras, rows, n, L, rfl, hT, k, q⟩ := h
    refine ⟨_, (pss_cons (ps_setLc (i := 1) (own := [("target", 5)]) (g := gName 5) (tt := tYes) (by rfl) sc_ways_back.nd rfl rfl (sw_true rfl rfl rfl (by decide +kernel)) (pi_listK K rfl (pe_ix (ix_listK K rfl) (pv 0) pe_int (fun _ _ => rfl))) (blkOk_by (own := [("target", 5)]) (N := N_ways_back) (by kernel_rfl)) (fun _ _ _ _ _ => (pg_name (i := 5) sc_ways_back.nd rfl (Or.inl rfl))) (fun _ _ _ _ _ => pts_nil) (fun _ _ _ _ _ => (pe_lc (own := [("row", 3)]) (g := gName 3) (tt := tYes) (by rfl) sc_ways_back.nd (pi_listK K rfl (pv 0)) (blkOk_by (own := [("row", 3)]) (N := N_ways_back) (by kernel_rfl)) (fun _ _ _ _ _ => (pg_name (i := 3) sc_ways_back.nd rfl (Or.inl rfl))) (fun _ _ _ _ _ => pts_nil) (fun _ _ _ _ _ => (pe_lst pa_nil)))))
      (pss_cons (ps_for PassesOwn.never rfl (pi_enumK K rfl (by rfl) T.m_enumerate (pa_cons (pv 0) pa_nil)) (pg_tupK (n := 2) K rfl (by rfl) (pgs_cons (pg_name (i := 2) sc_ways_back.nd rfl (Or.inl rfl)) (pgs_cons (pg_name (i := 3) sc_ways_back.nd rfl (Or.inl rfl)) pgs_nil)))
        (pss_one (ps_for PassesOwn.never rfl (pi_enumK K rfl (by rfl) T.m_enumerate (pa_cons (pv 3) pa_nil)) (pg_tupK (n := 2) K rfl (by rfl) (pgs_cons (pg_name (i := 4) sc_ways_back.nd rfl (Or.inl rfl)) (pgs_cons (pg_name (i := 5) sc_ways_back.nd rfl (Or.inl rfl)) pgs_nil)))
            (pss_one (ps_expr (pe_bmK K rfl PySem.F.plainAttrs_list PySem.F.slot_list_append PySem.F.type_list_append mt_append (pe_ix (ix_listK K rfl) (pe_ix (ix_listK K rfl) (pv 1) (pv 4) (fun _ _ => rfl)) (pv 5) (fun _ _ => rfl)) (pa_cons (pv 2) pa_nil)))))))
      (pss_one (ps_ret (pv 1))))), ?_⟩
    obtain ⟨r0, er0, eg0, lr0, _⟩ := k.at_ (s := 0) k.one
    obtain ⟨b0, hb0, hr0⟩ := hT.get (t := 0) (by rw [k.num]; exact k.one)
    rw [eg0] at hr0
    have lT : ras.length = n := by
      rw [hT.2.1, k.num]
    -- backs
    refine ⟨.ref tb, rfl, tb, _, 0, .ref b0, rfl, rfl, .inl (.inl hT.1), atI_nat (j := 0) hb0, b0, rfl, ⟨_, .inl (.inl hr0)⟩, fun D nD => ?_⟩
    refine lc_it (walk_list (K := K) (a := b0) (xs := vi r0)) (fun i H' => ∃ cs bss, Same H H' ∧ cs.length = i ∧ (∀ a ∈ cs, H a = none) ∧ (∀ b ∈ bss.flatten, H b = none) ∧ BK H' D cs bss n (fun _ _ => [])) ⟨[], [], same_new nD, rfl, (fun _ h => nomatch h), (fun _ h => nomatch h), ⟨upd_same, rfl, fun c a bs x => by simp at x, fun c t bs b x => by simp at x, List.nodup_nil⟩⟩ (fun i H' _ hW => ?_) (fun i x H1 H1' hi hW hY => ?_) (fun H1 hW => ?_)
    · obtain ⟨cs, bss, sm, _⟩ := hW
      exact .inl (.inl (sm _ _ hr0))
    · obtain ⟨cs, bss, sm, lc, fc, fb, bk⟩ := hW
      obtain ⟨rfl, hx⟩ := hY
      obtain ⟨u, hu, rfl⟩ := int_at hx
      refine ⟨rfl, lcyes ?_⟩
      -- [[] for row in table]
      refine ⟨.ref tb, rfl, tb, rfl, ⟨_, .inl (.inl (sm _ _ hT.1))⟩, fun D2 n2 => ?_⟩
      have dd : D ≠ D2 := ne_of_none bk.top n2
      refine lc_it (walk_list (K := K) (a := tb) (xs := vr ras)) (fun j H' => ∃ bs, Same H1' H' ∧ H' D2 = some (.lst (vr bs)) ∧ bs.length = j ∧ bs.Nodup ∧ ∀ b ∈ bs, H1' b = none ∧ b ≠ D2 ∧ H' b = some (.lst [])) ⟨[], same_new n2, upd_same, rfl, List.nodup_nil, fun _ h => nomatch h⟩ (fun j H' _ hW => ?_) (fun j x H2 H2' hj hW hY => ?_) (fun H2 hW => ?_)
      · obtain ⟨bs, sm2, _⟩ := hW
        exact .inl (.inl (sm2 _ _ (sm _ _ hT.1)))
      · obtain ⟨bs, sm2, e2, l2, nd2, f2⟩ := hW
        obtain ⟨rfl, hx2⟩ := hY
        refine ⟨rfl, lcyes ?_⟩
        refine ⟨by show 0 ≤ sizeLine; decide, fun p np => ?_⟩
        have pd : D2 ≠ p := ne_of_none e2 np
        have fp : H1' p = none := sm2.free np
        have nin : p ∉ bs := fun z => by
          rw [(f2 p z).2.2] at np
          cases np
        refine ⟨vr bs, by rw [upd_ne pd]; exact e2, ?_, bs ++ [p], ?_, ?_, ?_, ?_, fun b hb => ?_⟩
        · rw [List.length_map, l2]
          rw [List.length_map] at hj
          have := k.big
          exact Nat.lt_of_le_of_lt (show j ≤ 1000000 by omega) (by decide)
        · intro b o e
          rw [upd_ne (ne_of_none e n2), upd_ne (ne_of_none e fp)]
          exact sm2 b o e
        · rw [upd_same, vr_snoc]
        · rw [List.length_append, l2]
          rfl
        · refine List.nodup_append.mpr ⟨nd2, by simp, fun x hx y hy e => ?_⟩
          rw [List.mem_singleton.mp hy] at e
          exact nin (e ▸ hx)
        · rcases List.mem_append.mp hb with z | z
          · obtain ⟨z1, z2, z3⟩ := f2 b z
            refine ⟨z1, z2, ?_⟩
            rw [upd_ne z2, upd_ne (ne_of_none z3 np)]
            exact z3
          · rw [List.mem_singleton.mp z]
            refine ⟨fp, Ne.symm pd, ?_⟩
            rw [upd_ne (Ne.symm pd), upd_same]
      · obtain ⟨bs, sm2, e2, l2, nd2, f2⟩ := hW
        have bk2 := bk.same sm2
        have hD : upd H2 D (.lst (vr (cs ++ [D2]))) D = some (.lst (vr (cs ++ [D2]))) := upd_same
        have fD2 : H D2 = none := sm.free n2
        refine ⟨vr cs, bk2.top, ?_, cs ++ [D2], bss ++ [bs], ?_, ?_, ?_, ?_, ?_⟩
        · rw [List.length_map, lc]
          rw [List.length_map] at hi
          have := k.l5
          exact Nat.lt_of_le_of_lt (show i ≤ 1000000 by omega) (by decide)
        · intro b o e
          rw [vr_snoc, upd_ne (ne_of_none e nD)]
          exact sm2 _ _ (sm b o e)
        · rw [List.length_append, lc]
          rfl
        · exact mem_snoc fc fD2
        · intro b hb
          rw [List.flatten_append] at hb
          rcases List.mem_append.mp hb with z | z
          · exact fb b z
          · have z : b ∈ bs := by simpa using z
            exact sm.free (f2 b z).1
        · rw [vr_snoc]
          refine ⟨upd_same, by rw [List.length_append, List.length_append, bk.len]; rfl, fun c a bs' x y => ?_, fun c t bs' b x y => ?_, ?_⟩
          · by_cases hc : c < cs.length
            · rw [List.getElem?_append_left hc] at x
              rw [List.getElem?_append_left (by rw [← bk.len]; exact hc)] at y
              obtain ⟨z1, z2⟩ := bk2.col c a bs' x y
              refine ⟨?_, z2⟩
              have : a ≠ D := fun z => by
                have := fc a (List.mem_of_getElem? x)
                have z3 := bk.top
                have z4 := (bk.col c a bs' x y).1
                subst z
                rw [z3] at z4
                have z5 : vr cs = vr bs' := HO.lst.inj (Option.some.inj z4)
                have := congrArg List.length z5
                rw [List.length_map, List.length_map, z2] at this
                -- the list of columns would be one of its own
                have hmem : V.ref a ∈ vr cs := List.mem_map_of_mem (List.mem_of_getElem? x)
                rw [z5] at hmem
                obtain ⟨b', hb', e'⟩ := List.mem_map.mp hmem
                cases e'
                have : a ∈ bss.flatten := List.mem_flatten.mpr ⟨bs', List.mem_of_getElem? y, hb'⟩
                obtain ⟨t', ht'⟩ := List.mem_iff_getElem?.mp hb'
                have z6 := bk.cell c t' bs' a y ht'
                rw [z3] at z6
                have z7 : vr cs = [] := HO.lst.inj (Option.some.inj z6)
                have z8 : cs = [] := List.map_eq_nil_iff.mp z7
                rw [z8] at x
                simp at x
              rw [upd_ne this]
              exact z1
            · rw [List.getElem?_append_right (by omega)] at x
              rw [List.getElem?_append_right (by rw [← bk.len]; omega), ← bk.len] at y
              have e0 : c - cs.length = 0 := by
                cases z : c - cs.length with
                | zero => rfl
                | succ m =>
                  rw [z] at x
                  simp at x
              rw [e0] at x y
              cases x
              cases y
              rw [upd_ne (Ne.symm dd)]
              rw [List.length_map] at l2
              exact ⟨e2, by omega⟩
          · by_cases hc : c < bss.length
            · rw [List.getElem?_append_left hc] at x
              have z1 := bk2.cell c t bs' b x y
              have z0 := bk.cell c t bs' b x y
              have : b ≠ D := fun z => by
                have := fb b (List.mem_flatten.mpr ⟨bs', List.mem_of_getElem? x, List.mem_of_getElem? y⟩)
                subst z
                have z3 := bk.top
                rw [z3] at z0
                have z7 : vr cs = [] := HO.lst.inj (Option.some.inj z0)
                have z8 : cs = [] := List.map_eq_nil_iff.mp z7
                have := bk.len
                rw [z8] at this
                simp at this
                omega
              rw [upd_ne this]
              exact z1
            · rw [List.getElem?_append_right (by omega)] at x
              have e0 : c - bss.length = 0 := by
                cases z : c - bss.length with
                | zero => rfl
                | succ m =>
                  rw [z] at x
                  simp at x
              rw [e0] at x
              cases x
              obtain ⟨z1, z2, z3⟩ := f2 b (List.mem_of_getElem? y)
              rw [upd_ne (Ne.symm (ne_of_none bk.top z1))]
              exact z3
          · rw [List.flatten_append, List.nodup_append]
            refine ⟨bk.nd, by simpa using nd2, fun x hx y hy e => ?_⟩
            have hy : y ∈ bs := by simpa using hy
            subst e
            obtain ⟨bs', hbs', hxb⟩ := List.mem_flatten.mp hx
            obtain ⟨c, hc⟩ := List.mem_iff_getElem?.mp hbs'
            obtain ⟨t, ht⟩ := List.mem_iff_getElem?.mp hxb
            have z0 := bk.cell c t bs' x hc ht
            rw [(f2 x hy).1] at z0
            cases z0
    · obtain ⟨cs, bss, sm, lc, fc, fb, bk⟩ := hW
      rw [List.length_map, lr0] at lc
      have bk := bk.congr (G := bkF rows 0) fun c t _ => rfl
      -- for state, row in enumerate(table)
      refine ⟨.ref tb, rfl, tb, _, rfl, .inl (.inl (sm _ _ hT.1)), ?_⟩
      refine for_it (walk_enum (K := K) (a := tb) (xs := vr ras)) (fun i σ H' => (Same H H' ∧ BK H' D cs bss n (bkF rows i)) ∧ ∃ y2 y3 y4 y5, σ = [some (.ref tb), some (.ref D), y2, y3, y4, y5]) ⟨⟨sm, bk⟩, none, none, none, none, rfl⟩ (fun i σ H' _ hW => .inl (.inl (hW.1.1 _ _ hT.1))) (fun i x σ H2 H2' hi hW hY => ?_) (fun σ H2 hW => ?_)
      · obtain ⟨⟨sm2, bk2⟩, y2, y3, y4, y5, rfl⟩ := hW
        obtain ⟨T1, v1, v2, rfl, nT1, rfl, e1, e2⟩ := hY
        cases e1
        rw [List.length_map] at hi
        have hin : i < n := by omega
        obtain ⟨r, er, eg, lr, lt⟩ := k.at_ hin
        obtain ⟨b, hb, hrow⟩ := hT.get (t := i) (by rw [k.num]; exact hin)
        rw [eg] at hrow
        have e2 := hb.symm.trans e2
        cases e2
        refine ⟨T1, [.int (i : Int), .ref b], rfl, .inl (.inl upd_same), rfl, .int (i : Int), [.ref b], rfl, .ref b, [], rfl, rfl, ?_⟩
        have sm3 : Same H (upd H2 T1 (.tup [.int (i : Int), .ref b])) := sm2.trans (same_new nT1)
        have bk3 := bk2.same (same_new (o := .tup [.int (i : Int), .ref b]) nT1)
        generalize upd H2 T1 (.tup [.int (i : Int), .ref b]) = H3 at sm3 bk3
        -- for column, target in enumerate(row)
        refine ⟨.ref b, rfl, b, _, rfl, .inl (.inl (sm3 _ _ hrow)), ?_⟩
        refine for_it (walk_enum (K := K) (a := b) (xs := vi r)) (fun j σ H' => (Same H H' ∧ BK H' D cs bss n (fun c t => if c < j then bkF rows (i + 1) c t else bkF rows i c t)) ∧ ∃ y4 y5, σ = [some (.ref tb), some (.ref D), some (.int (i : Int)), some (.ref b), y4, y5]) ⟨⟨sm3, bk3.congr fun c t _ => by rw [if_neg (Nat.not_lt_zero c)]⟩, y4, y5, rfl⟩ (fun j σ H' _ hW => .inl (.inl (hW.1.1 _ _ hrow))) (fun j x σ H4 H4' hj hW hY => ?_) (fun σ H4 hW => ?_)
        · obtain ⟨⟨sm4, bk4⟩, y4, y5, rfl⟩ := hW
          obtain ⟨T2, v1, v2, rfl, nT2, rfl, e1, e2⟩ := hY
          cases e1
          obtain ⟨u, hu, rfl⟩ := int_at e2
          rw [List.length_map] at hj
          have hun : u < n := lt u (List.mem_of_getElem? hu)
          have edl : dl rows i j = u := by
            unfold dl
            rw [eg, List.getD_eq_getElem?_getD, hu]
            rfl
          refine ⟨T2, [.int (j : Int), .int (u : Int)], rfl, .inl (.inl upd_same), rfl, .int (j : Int), [.int (u : Int)], rfl, .int (u : Int), [], rfl, rfl, ?_⟩
          have sm5 : Same H (upd H4 T2 (.tup [.int (j : Int), .int (u : Int)])) := sm4.trans (same_new nT2)
          have bk5 := bk4.same (same_new (o := .tup [.int (j : Int), .int (u : Int)]) nT2)
          generalize upd H4 T2 (.tup [.int (j : Int), .int (u : Int)]) = H5 at sm5 bk5
          have hjc : j < cs.length := by omega
          have hjb : j < bss.length := by
            rw [← bk5.len]
            exact hjc
          obtain ⟨c1, c2⟩ := bk5.col j _ _ (List.getElem?_eq_getElem hjc) (List.getElem?_eq_getElem hjb)
          have hub : u < bss[j].length := by omega
          have c3 := bk5.cell j u _ _ (List.getElem?_eq_getElem hjb) (List.getElem?_eq_getElem hub)
          have fbu : H bss[j][u] = none := fb _ (List.mem_flatten.mpr ⟨_, List.getElem_mem hjb, List.getElem_mem hub⟩)
          have v1 : (vr cs)[j]? = some (.ref cs[j]) := by
            rw [List.getElem?_map, List.getElem?_eq_getElem hjc]
            rfl
          have v2 : (vr bss[j])[u]? = some (.ref bss[j][u]) := by
            rw [List.getElem?_map, List.getElem?_eq_getElem hub]
            rfl
          -- backs[column][target].append(state)
          refine ⟨.ref D, rfl, .int (j : Int), rfl, D, _, (j : Int), .ref cs[j], rfl, rfl, .inl (.inl bk5.top), atI_nat v1, .int (u : Int), rfl, cs[j], _, (u : Int), .ref bss[j][u], rfl, rfl, .inl (.inl c1), atI_nat v2, .inl ⟨rfl, _, .inl (.inl c3)⟩, .int (i : Int), rfl, bss[j][u], _, _, rfl, rfl, c3, ?_, ⟨?_, ?_⟩, _, _, rfl⟩
          · rw [List.length_map]
            have : (if j < j then bkF rows (i + 1) j u else bkF rows i j u).length ≤ i := by
              rw [if_neg (Nat.lt_irrefl j)]
              unfold bkF
              refine Nat.le_trans (List.length_filter_le _ _) ?_
              rw [List.length_range]
              exact Nat.le_refl _
            have := k.big
            exact Nat.lt_of_le_of_lt (show _ ≤ 1000000 by omega) (by decide)
          · intro b' o e
            rw [upd_ne (ne_of_none e fbu)]
            exact sm5 _ _ e
          · have := bk5.put (x := i) (List.getElem?_eq_getElem hjb) (List.getElem?_eq_getElem hub) k.one (by omega)
            rw [vi_snoc]
            refine this.congr fun c t _ => ?_
            by_cases e : c = j ∧ t = u
            · obtain ⟨rfl, rfl⟩ := e
              rw [if_pos ⟨rfl, rfl⟩, if_neg (Nat.lt_irrefl c), if_pos (Nat.lt_succ_self c), bkF_succ, if_pos edl]
            · rw [if_neg e]
              by_cases hc : c < j
              · rw [if_pos hc, if_pos (by omega)]
              · rw [if_neg hc]
                by_cases hcj : c = j
                · subst hcj
                  rw [if_pos (Nat.lt_succ_self c), bkF_succ, if_neg (fun z => e ⟨rfl, by rw [← z, edl]⟩)]
                · rw [if_neg (by omega)]
        · obtain ⟨⟨sm4, bk4⟩, y4, y5, rfl⟩ := hW
          rw [List.length_map] at bk4
          exact ⟨⟨sm4, bk4.congr fun c t hc => by rw [if_pos (by omega)]⟩, _, _, _, _, rfl⟩
      · obtain ⟨⟨sm2, bk2⟩, y2, y3, y4, y5, rfl⟩ := hW
        rw [List.length_map, lT] at bk2
        exact ⟨.ref D, rfl, q _ D cs bss sm2 nD fc fb lc bk2⟩
end
end LH

namespace LH
open PySem PySem.Spec PyProof.Rows L2
/-! ### first_groups -/
def sOf (bs : List Bool) (b : Bool) (i : Nat) : List Nat := (List.range i).filter fun s => decide (bs[s]? = some b)
theorem sOf_succ {bs : List Bool} {b : Bool} {i : Nat} {x : Bool} (h : bs[i]? = some x) : sOf bs b (i + 1) = if x = b then sOf bs b i ++ [i] else sOf bs b i := by
  unfold sOf
  rw [List.range_succ, List.filter_append]
  by_cases e : x = b
  · subst e
    rw [if_pos rfl]
    simp [h]
  · rw [if_neg e]
    simp [h, e]
theorem sOf_mem {bs : List Bool} {b : Bool} {i s : Nat} : s ∈ sOf bs b i ↔ s < i ∧ bs[s]? = some b := by
  unfold sOf
  rw [List.mem_filter, List.mem_range, decide_eq_true_iff]
theorem sOf_nd (bs : List Bool) (b : Bool) (i : Nat) : (sOf bs b i).Nodup := List.nodup_range.filter _
theorem sOf_len (bs : List Bool) (b : Bool) (i : Nat) : (sOf bs b i).length ≤ i := by
  unfold sOf
  refine Nat.le_trans (List.length_filter_le _ _) ?_
  rw [List.length_range]
  exact Nat.le_refl _
structure Pre (bs : List Bool) (gs : List (List Nat)) : Prop where
  nd : ∀ g ∈ gs, g.Nodup ∧ g ≠ []
  ex : ∀ s, s < bs.length → ∃ (h : Nat) (g : List Nat), gs[h]? = some g ∧ s ∈ g
  same : ∀ g ∈ gs, ∀ s, s ∈ g → s < bs.length ∧ ∀ t, t < bs.length → (t ∈ g ↔ bs[t]? = bs[s]?)
  disj : ∀ (h h' : Nat) (g g' : List Nat) (s : Nat), gs[h]? = some g → gs[h']? = some g' → s ∈ g → s ∈ g' → h = h'
theorem pre_of (bs : List Bool) : Pre bs (([sOf bs true bs.length, sOf bs false bs.length]).filter fun g => decide (g ≠ [])) := by
  have mm : ∀ g ∈ ([sOf bs true bs.length, sOf bs false bs.length]).filter (fun g => decide (g ≠ [])), g ≠ [] ∧ ∃ b, g = sOf bs b bs.length := fun g hg => by
    obtain ⟨h1, h2⟩ := List.mem_filter.mp hg
    refine ⟨of_decide_eq_true h2, ?_⟩
    simp only [List.mem_cons, List.mem_nil_iff, or_false] at h1
    rcases h1 with rfl | rfl
    · exact ⟨true, rfl⟩
    · exact ⟨false, rfl⟩
  refine ⟨fun g hg => ?_, fun s hs => ?_, fun g hg s hsg => ?_, fun h h' g g' s hg hg' hsg hsg' => ?_⟩
  · obtain ⟨h1, b, rfl⟩ := mm g hg
    exact ⟨sOf_nd _ _ _, h1⟩
  · have hb : bs[s]? = some bs[s] := List.getElem?_eq_getElem hs
    have hm : s ∈ sOf bs bs[s] bs.length := sOf_mem.mpr ⟨hs, hb⟩
    have : sOf bs bs[s] bs.length ∈ ([sOf bs true bs.length, sOf bs false bs.length]).filter (fun g => decide (g ≠ [])) := by
      refine List.mem_filter.mpr ⟨?_, decide_eq_true (List.ne_nil_of_mem hm)⟩
      cases bs[s] <;> simp
    obtain ⟨h, hh⟩ := List.mem_iff_getElem?.mp this
    exact ⟨h, _, hh, hm⟩
  · obtain ⟨h1, b, rfl⟩ := mm g hg
    obtain ⟨h2, h3⟩ := sOf_mem.mp hsg
    refine ⟨h2, fun t ht => ?_⟩
    rw [sOf_mem, h3]
    exact ⟨fun z => z.2, fun z => ⟨ht, z⟩⟩
  · have key : (([sOf bs true bs.length, sOf bs false bs.length]).filter fun g => decide (g ≠ [])).Nodup ∨ sOf bs true bs.length = [] := by
      by_cases e : sOf bs true bs.length = []
      · exact .inr e
      · refine .inl (List.Pairwise.filter _ ?_)
        show List.Nodup _
        rw [List.nodup_cons]
        refine ⟨fun z => ?_, by simp⟩
        have z : sOf bs true bs.length = sOf bs false bs.length := by simpa using z
        obtain ⟨x, hx⟩ := List.exists_mem_of_ne_nil _ e
        have h1 := (sOf_mem.mp hx).2
        rw [z] at hx
        have h2 := (sOf_mem.mp hx).2
        rw [h1] at h2
        cases h2
    have gg : g = g' := by
      obtain ⟨_, b, rfl⟩ := mm g (List.mem_of_getElem? hg)
      obtain ⟨_, b', rfl⟩ := mm g' (List.mem_of_getElem? hg')
      have h1 := (sOf_mem.mp hsg).2
      have h2 := (sOf_mem.mp hsg').2
      rw [h1] at h2
      cases h2
      rfl
    subst gg
    rcases key with key | key
    · exact nd_ix key hg hg'
    · have : (([sOf bs true bs.length, sOf bs false bs.length]).filter fun g => decide (g ≠ [])).length ≤ 1 := by
        rw [List.filter_cons, if_neg (by simp [key])]
        exact Nat.le_trans (List.length_filter_le _ _) (by simp)
      have a := (List.getElem?_eq_some_iff.mp hg).1
      have b := (List.getElem?_eq_some_iff.mp hg').1
      omega
section
variable {P : Program} {w : World} {K : PySem.W.Frag} {mg : Str → Option Value} {base : Heap}
def sp_first_groups : Sp := fun vs H Q _ => ∃ (e : Addr) (bs : List Bool), vs = [.ref e] ∧ H e = some (.lst (bs.map V.bl)) ∧ bs.length ≤ 1000000 ∧ ∀ H' gr as gs, Same H H' → H gr = none → (∀ a ∈ as, H a = none) → GrpAt H' gr as gs → Pre bs gs → Q (.ref gr) H'
theorem bool_at {bs : List Bool} {i : Nat} {x : V} (h : (bs.map V.bl)[i]? = some x) : ∃ b, bs[i]? = some b ∧ x = .bl b := by
  rw [List.getElem?_map] at h
  cases e : bs[i]? with
  | none =>
    rw [e] at h
    cases h
  | some s =>
    rw [e] at h
    cases h
    exact ⟨s, rfl, rfl⟩
theorem ok_first_groups (T : TX K mg) : FnOk P w K mg base CX0 1 T.a_first_groups T.fd_first_groups ["ended"] sp_first_groups := by
  refine T.F_first_groups.ok sc_first_groups (fun vs H Q E h => ?_) (fun cdv A outer s H vs Q E hr h => ?_)
  · obtain ⟨e, bs, rfl, _⟩ := h
    rfl
  · obtain ⟨e, bs, rfl, he, hbig, q⟩ := h
    refine ⟨_, (pss_cons (ps_set (i := 1) sc_first_groups.nd rfl (Or.inl rfl) pe_dnewK)
      (pss_cons (ps_set (i := 2) sc_first_groups.nd rfl (Or.inl rfl) pe_dnewK)
      (pss_cons (ps_for PassesOwn.never rfl (pi_enumK K rfl (by rfl) T.m_enumerate (pa_cons (pv 0) pa_nil)) (pg_tupK (n := 2) K rfl (by rfl) (pgs_cons (pg_name (i := 3) sc_first_groups.nd rfl (Or.inl rfl)) (pgs_cons (pg_name (i := 4) sc_first_groups.nd rfl (Or.inl rfl)) pgs_nil)))
        (pss_one (ps_if (pt_val (pv 4))
            (pss_one (ps_dput (hu_of hr) (pv 1) (pv 3) pe_bl rfl))
            (pss_one (ps_dput (hu_of hr) (pv 2) (pv 3) pe_bl rfl)))))
      (pss_one (ps_ret (pe_lc (own := [("group", 5)]) (g := gName 5) (by rfl) sc_first_groups.nd (pi_tupK K rfl (pe_tup (pa_cons (pv 1) (pa_cons (pv 2) pa_nil)))) (blkOk_by (own := [("group", 5)]) (N := N_first_groups) (by kernel_rfl)) (fun _ _ _ _ _ => (pg_name (i := 5) sc_first_groups.nd rfl (by first | exact Or.inl rfl | exact Or.inr rfl))) (fun _ _ _ _ _ => (pts_one (pt_cmpR op_gt (pe_callB call_lenD (by rfl) T.m_len (by decide +kernel) (pa_cons (pv 5) pa_nil)) pe_int (nomark _)))) (fun _ _ _ _ _ => (pv 5)))))))), ?_⟩
    refine fun d1 n1 => fun d2 n2 => ?_
    have d12 : d1 ≠ d2 := ne_of_none upd_same n2
    have n2' : H d2 = none := by
      rw [upd_ne (Ne.symm d12)] at n2
      exact n2
    have sm0 : Same H (upd (upd H d1 (.dK [])) d2 (.dK [])) := (same_new n1).trans (same_new n2)
    refine ⟨.ref e, rfl, e, _, rfl, .inl (.inl (sm0 _ _ he)), ?_⟩
    refine for_it (walk_enum (K := K) (a := e) (xs := bs.map V.bl)) (fun i σ H' => (Same H H' ∧ H' d1 = some (.dK (dk (sOf bs true i))) ∧ H' d2 = some (.dK (dk (sOf bs false i)))) ∧ ∃ y3 y4 y5, σ = [some (.ref e), some (.ref d1), some (.ref d2), y3, y4, y5]) ⟨⟨sm0, by rw [upd_ne d12, upd_same]; rfl, upd_same⟩, none, none, none, rfl⟩ (fun i σ H' _ hW => .inl (.inl (hW.1.1 _ _ he))) (fun i x σ H1 H1' hi hW hY => ?_) (fun σ H1 hW => ?_)
    · obtain ⟨⟨sm, h1, h2⟩, y3, y4, y5, rfl⟩ := hW
      obtain ⟨T1, v1, v2, rfl, nT1, rfl, e1, e2⟩ := hY
      cases e1
      obtain ⟨b, hb, rfl⟩ := bool_at e2
      rw [List.length_map] at hi
      refine ⟨T1, [.int (i : Int), .bl b], rfl, .inl (.inl upd_same), rfl, .int (i : Int), [.bl b], rfl, .bl b, [], rfl, rfl, ?_⟩
      have sm1 : Same H (upd H1 T1 (.tup [.int (i : Int), .bl b])) := sm.trans (same_new nT1)
      have g1 := same_new (o := .tup [.int (i : Int), .bl b]) nT1 _ _ h1
      have g2 := same_new (o := .tup [.int (i : Int), .bl b]) nT1 _ _ h2
      have notin : ∀ b, i ∉ sOf bs b i := fun b z => Nat.lt_irrefl _ (sOf_mem.mp z).1
      have small : ∀ b, (dk (sOf bs b i)).length < sizeLine := fun b => by
        rw [List.length_map]
        have := sOf_len bs b i
        exact Nat.lt_of_le_of_lt (show _ ≤ 1000000 by omega) (by decide)
      refine ⟨.bl b, rfl, b, rfl, ?_⟩
      cases b with
      | true =>
        refine iteT ?_
        refine ⟨.ref d1, rfl, .int (i : Int), rfl, d1, _, rfl, DPut.k (k := Sum.inl (i : Int)) g1 (small true), ⟨?_, ?_, ?_⟩, _, _, _, rfl⟩
        · intro b o e'
          rw [upd_ne (ne_of_none e' n1)]
          exact sm1 _ _ e'
        · rw [upd_same, putK_dk (notin true), sOf_succ hb, if_pos rfl]
        · rw [upd_ne (Ne.symm d12), sOf_succ hb, if_neg (by decide)]
          exact g2
      | false =>
        refine iteF ?_
        refine ⟨.ref d2, rfl, .int (i : Int), rfl, d2, _, rfl, DPut.k (k := Sum.inl (i : Int)) g2 (small false), ⟨?_, ?_, ?_⟩, _, _, _, rfl⟩
        · intro b o e'
          rw [upd_ne (ne_of_none e' n2')]
          exact sm1 _ _ e'
        · rw [upd_ne d12, sOf_succ hb, if_neg (by decide)]
          exact g1
        · rw [upd_same, putK_dk (notin false), sOf_succ hb, if_pos rfl]
    · obtain ⟨⟨sm, h1, h2⟩, y3, y4, y5, rfl⟩ := hW
      rw [List.length_map] at h1 h2
      refine ⟨.ref d1, rfl, .ref d2, rfl, by show 2 ≤ sizeLine; decide, fun t nt => ?_⟩
      refine ⟨t, rfl, ⟨_, .inl (.inl upd_same)⟩, fun D nD => ?_⟩
      have fD : H D = none := (sm.trans (same_new nt)).free nD
      have tD : t ≠ D := ne_of_none upd_same nD
      have g1 := same_new (o := .tup [.ref d1, .ref d2]) nt _ _ h1
      have g2 := same_new (o := .tup [.ref d1, .ref d2]) nt _ _ h2
      have e1D : d1 ≠ D := ne_of_none g1 nD
      have e2D : d2 ≠ D := ne_of_none g2 nD
      have ft : H t = none := sm.free nt
      refine lc_it (walk_tup (K := K) (a := t) (xs := [.ref d1, .ref d2])) (fun i H' => (Same H H' ∧ H' t = some (.tup [.ref d1, .ref d2]) ∧ H' d1 = some (.dK (dk (sOf bs true bs.length))) ∧ H' d2 = some (.dK (dk (sOf bs false bs.length)))) ∧ H' D = some (.lst (vr (((([(d1, sOf bs true bs.length), (d2, sOf bs false bs.length)] : List (Addr × List Nat)).take i).filter fun p => decide (p.2 ≠ [])).map (·.1))))) ⟨⟨(sm.trans (same_new nt)).trans (same_new nD), by rw [upd_ne tD, upd_same], same_new nD _ _ g1, same_new nD _ _ g2⟩, upd_same⟩ (fun i H' _ hW => .inl (.inl hW.1.2.1)) (fun i x H2 H2' hi hW hY => ?_) (fun H2 hW => ?_)
      · obtain ⟨⟨sm2, ht2, k1, k2⟩, kD⟩ := hW
        obtain ⟨rfl, hx⟩ := hY
        have step : ∀ (d : Addr) (g : List Nat), ([(d1, sOf bs true bs.length), (d2, sOf bs false bs.length)] : List (Addr × List Nat))[i]? = some (d, g) → x = .ref d → H2' d = some (.dK (dk g)) → gName 5 x (wipe [some (.ref e), some (.ref d1), some (.ref d2), y3, y4, y5] [5]) H2' fun σ2 H2 => wipe σ2 [5] = wipe [some (.ref e), some (.ref d1), some (.ref d2), y3, y4, y5] [5] ∧
            (tTest (tOp (rI0 fun i j => V.bl (decide (j < i))) (tCB (fun xs H Q => ∃ a kvs, xs = [V.ref a] ∧ H a = some (.dK kvs) ∧ Q (.int kvs.length) H) (tCons (tVar 5) tNil)) (tC (.int 0)))) σ2 H2 fun b H3 => if b = true then (tVar 5) σ2 H3 fun y H4 => ∃ acc, H4 D = some (.lst acc) ∧ acc.length < sizeLine ∧
              ((Same H (upd H4 D (.lst (acc ++ [y]))) ∧ (upd H4 D (.lst (acc ++ [y]))) t = some (.tup [.ref d1, .ref d2]) ∧ (upd H4 D (.lst (acc ++ [y]))) d1 = some (.dK (dk (sOf bs true bs.length))) ∧ (upd H4 D (.lst (acc ++ [y]))) d2 = some (.dK (dk (sOf bs false bs.length)))) ∧ (upd H4 D (.lst (acc ++ [y]))) D = some (.lst (vr (((([(d1, sOf bs true bs.length), (d2, sOf bs false bs.length)] : List (Addr × List Nat)).take (i + 1)).filter fun p => decide (p.2 ≠ [])).map (·.1)))))
              else ((Same H H3 ∧ H3 t = some (.tup [.ref d1, .ref d2]) ∧ H3 d1 = some (.dK (dk (sOf bs true bs.length))) ∧ H3 d2 = some (.dK (dk (sOf bs false bs.length)))) ∧ H3 D = some (.lst (vr (((([(d1, sOf bs true bs.length), (d2, sOf bs false bs.length)] : List (Addr × List Nat)).take (i + 1)).filter fun p => decide (p.2 ≠ [])).map (·.1))))) := by
          intro d g hp hx' hd
          subst hx'
          refine ⟨rfl, .ref d, rfl, d, _, rfl, hd, _, 0, rfl, rfl, _, rfl, ite2 (fun z => ?_) (fun z => ?_)⟩
          · have hne : g ≠ [] := fun y => by
              subst y
              have := of_decide_eq_true z
              exact absurd this (by decide)
            refine ⟨.ref d, rfl, _, kD, ?_, ⟨?_, ?_, ?_, ?_⟩, ?_⟩
            · rw [List.length_map, List.length_map]
              refine Nat.lt_of_le_of_lt (List.length_filter_le _ _) ?_
              rw [List.length_take]
              exact Nat.lt_of_le_of_lt (show _ ≤ 1000 by simp; omega) (by decide)
            · intro b o e'
              rw [upd_ne (ne_of_none e' fD)]
              exact sm2 _ _ e'
            · rw [upd_ne tD]
              exact ht2
            · rw [upd_ne e1D]
              exact k1
            · rw [upd_ne e2D]
              exact k2
            · rw [upd_same, take_snoc hp, List.filter_append, List.map_append]
              have : ([(d, g)].filter fun p => decide (p.2 ≠ [])) = [(d, g)] := by simp [hne]
              rw [this]
              exact congrArg (fun z => some (HO.lst z)) (vr_snoc _ d)
          · have hne : g = [] := by
              cases g with
              | nil => rfl
              | cons a r =>
                refine absurd (decide_eq_true ?_) z
                rw [List.length_map]
                show (0 : Int) < ((r.length + 1 : Nat) : Int)
                omega
            refine ⟨⟨sm2, ht2, k1, k2⟩, ?_⟩
            rw [take_snoc hp, List.filter_append]
            have : ([(d, g)].filter fun p => decide (p.2 ≠ [])) = [] := by simp [hne]
            rw [this, List.append_nil]
            exact kD
        have hi2 : i < 2 := hi
        have hi3 : i = 0 ∨ i = 1 := by omega
        rcases hi3 with rfl | rfl
        · cases hx
          exact step d1 _ rfl rfl k1
        · cases hx
          exact step d2 _ rfl rfl k2
      · obtain ⟨⟨sm2, ht2, k1, k2⟩, kD⟩ := hW
        have pr := pre_of bs
        have em : (([(d1, sOf bs true bs.length), (d2, sOf bs false bs.length)] : List (Addr × List Nat)).filter fun p => decide (p.2 ≠ [])).map (·.2) = ([sOf bs true bs.length, sOf bs false bs.length]).filter fun g => decide (g ≠ []) := by
          rw [show [sOf bs true bs.length, sOf bs false bs.length] = ([(d1, sOf bs true bs.length), (d2, sOf bs false bs.length)] : List (Addr × List Nat)).map (·.2) from rfl, List.filter_map]
          rfl
        rw [← em] at pr
        have al : ∀ p ∈ ([(d1, sOf bs true bs.length), (d2, sOf bs false bs.length)] : List (Addr × List Nat)), H p.1 = none ∧ H2 p.1 = some (.dK (dk p.2)) := fun p hp => by
          simp only [List.mem_cons, List.mem_nil_iff, or_false] at hp
          rcases hp with rfl | rfl
          · exact ⟨n1, k1⟩
          · exact ⟨n2', k2⟩
        refine q H2 D _ _ sm2 fD (fun a ha => ?_) ⟨kD, ?_, ?_, fun i a g x y => ?_⟩ pr
        · obtain ⟨p, hp, rfl⟩ := List.mem_map.mp ha
          exact (al p (List.mem_filter.mp hp).1).1
        · have s1 : (((([(d1, sOf bs true bs.length), (d2, sOf bs false bs.length)] : List (Addr × List Nat))).filter fun p => decide (p.2 ≠ [])).map (·.1)).Sublist [d1, d2] := (List.filter_sublist (l := [(d1, sOf bs true bs.length), (d2, sOf bs false bs.length)])).map _
          exact s1.nodup (by simp [d12])
        · rw [List.length_map, List.length_map]
          rfl
        · rw [List.getElem?_map] at x y
          obtain ⟨p, hp, rfl⟩ := Option.map_eq_some_iff.mp x
          have hp' : ((([(d1, sOf bs true bs.length), (d2, sOf bs false bs.length)] : List (Addr × List Nat))).filter fun p => decide (p.2 ≠ []))[i]? = some p := hp
          rw [hp'] at y
          cases y
          exact (al p (List.mem_filter.mp (List.mem_of_getElem? hp')).1).2
end
end LH

namespace LH
open PySem PySem.Spec PyProof.Rows L2
/-! ### like states -/
def runs (rows : List (List Nat)) (s : Nat) (w : List Nat) : Nat := w.foldl (dl rows) s
def Eqv (rows : List (List Nat)) (bs : List Bool) (L s t : Nat) : Prop := ∀ w : List Nat, (∀ c ∈ w, c < L) → bs[runs rows s w]? = bs[runs rows t w]?
theorem Eqv.step {rows : List (List Nat)} {bs : List Bool} {L s t c : Nat} (h : Eqv rows bs L s t) (hc : c < L) : Eqv rows bs L (dl rows s c) (dl rows t c) := fun w hw => h (c :: w) fun d hd => by
  rcases List.mem_cons.mp hd with rfl | hd
  · exact hc
  · exact hw d hd
structure PInv (rows : List (List Nat)) (bs : List Bool) (n L a : Nat) (gs : List (List Nat)) (hl : List Nat) : Prop where
  part : Part n gs hl
  co : ∀ s t, s < n → t < n → Eqv rows bs L s t → hl[s]? = hl[t]?
  fin : ∀ s t, s < n → t < n → hl[s]? = hl[t]? → bs[s]? = bs[t]?
  st : ∀ s t c p q, s < n → t < n → c < L → hl[s]? = hl[t]? → hl[dl rows s c]? = some p → hl[dl rows t c]? = some q → p < a → q < a → p = q
theorem PInv.last {rows : List (List Nat)} {bs : List Bool} {n L a : Nat} {gs : List (List Nat)} {hl : List Nat} (k : TabOk n L rows) (h : PInv rows bs n L a gs hl) (ha : gs.length ≤ a) : ∀ s t, s < n → t < n → (hl[s]? = hl[t]? ↔ Eqv rows bs L s t) := by
  intro s t hs ht
  refine ⟨fun e w => ?_, h.co s t hs ht⟩
  induction w generalizing s t with
  | nil => exact fun _ => h.fin s t hs ht e
  | cons c w ih =>
    intro hw
    have hc := hw c (List.mem_cons_self ..)
    have h1 := k.dl_lt hs hc
    have h2 := k.dl_lt ht hc
    have l1 : dl rows s c < hl.length := by rw [h.part.len]; exact h1
    have l2 : dl rows t c < hl.length := by rw [h.part.len]; exact h2
    have g1 : hl[dl rows s c]? = some hl[dl rows s c] := List.getElem?_eq_getElem l1
    have g2 : hl[dl rows t c]? = some hl[dl rows t c] := List.getElem?_eq_getElem l2
    have := h.st s t c _ _ hs ht hc e g1 g2 (Nat.lt_of_lt_of_le (h.part.lt _ _ g1) ha) (Nat.lt_of_lt_of_le (h.part.lt _ _ g2) ha)
    exact ih _ _ h1 h2 (by rw [g1, g2, this]) fun d hd => hw d (List.mem_cons_of_mem _ hd)
structure Ref (n k : Nat) (hl0 hl : List Nat) : Prop where
  fine : ∀ s t, s < n → t < n → hl[s]? = hl[t]? → hl0[s]? = hl0[t]?
  low : ∀ (s h : Nat), hl[s]? = some h → h < k → hl0[s]? = some h
theorem Ref.refl (n k : Nat) (hl : List Nat) : Ref n k hl hl := ⟨fun _ _ _ _ h => h, fun _ _ h _ => h⟩
theorem Ref.trans {n k k' : Nat} {a b c : List Nat} (h : Ref n k a b) (h' : Ref n k' b c) (l : k ≤ k') : Ref n k a c := ⟨fun s t hs ht e => h.fine s t hs ht (h'.fine s t hs ht e), fun s x e lt => h.low s x (h'.low s x e (by omega)) lt⟩
theorem Split.ref {n home : Nat} {gs gs' : List (List Nat)} {hl hl' hit : List Nat} (p : Part n gs hl) (h : Split n gs gs' hl hl' home hit) : Ref n gs.length hl hl' := by
  obtain ⟨B, hB, _⟩ := h.map
  refine ⟨fun s t hs ht e => ?_, fun s x e lt => ?_⟩
  · rw [hB s, hB t] at e
    by_cases c1 : hl[s]? = some home ∧ B s = true
    · rw [if_pos c1] at e
      by_cases c2 : hl[t]? = some home ∧ B t = true
      · rw [c1.1, c2.1]
      · rw [if_neg c2] at e
        exact absurd (p.lt t _ e.symm) (Nat.lt_irrefl _)
    · rw [if_neg c1] at e
      by_cases c2 : hl[t]? = some home ∧ B t = true
      · rw [if_pos c2] at e
        exact absurd (p.lt s _ e) (Nat.lt_irrefl _)
      · rw [if_neg c2] at e
        exact e
  · rw [hB s] at e
    by_cases c1 : hl[s]? = some home ∧ B s = true
    · rw [if_pos c1] at e
      cases e
      omega
    · rw [if_neg c1] at e
      exact e
/-- two states of one new group: both hit or none -/
theorem Split.sep {n home : Nat} {gs gs' : List (List Nat)} {hl hl' hit : List Nat} (p : Part n gs hl) (h : Split n gs gs' hl hl' home hit) {s t : Nat} (hs : s < n) (ht : t < n) (e : hl'[s]? = hl'[t]?) (hh : hl[s]? = some home) : (s ∈ hit ↔ t ∈ hit) := by
  have ht' : hl[t]? = some home := by rw [← (h.ref p).fine s t hs ht e]; exact hh
  obtain ⟨B, hB, hc⟩ := h.map
  have bb : B s = true ↔ B t = true := by
    rw [hB s, hB t] at e
    by_cases c1 : B s = true
    · rw [if_pos ⟨hh, c1⟩] at e
      by_cases c2 : B t = true
      · exact ⟨fun _ => c2, fun _ => c1⟩
      · rw [if_neg (fun z => c2 z.2)] at e
        exact absurd (p.lt t _ e.symm) (Nat.lt_irrefl _)
    · rw [if_neg (fun z => c1 z.2)] at e
      by_cases c2 : B t = true
      · rw [if_pos ⟨ht', c2⟩] at e
        exact absurd (p.lt s _ e) (Nat.lt_irrefl _)
      · exact ⟨fun z => absurd z c1, fun z => absurd z c2⟩
  rcases hc with hc | hc
  · rw [← hc s hh, ← hc t ht', bb]
  · have h1 := hc s hh
    have h2 := hc t ht'
    by_cases q1 : s ∈ hit
    · by_cases q2 : t ∈ hit
      · exact ⟨fun _ => q2, fun _ => q1⟩
      · exact absurd q1 (h1.mp (bb.mpr (h2.mpr q2)))
    · by_cases q2 : t ∈ hit
      · exact absurd q2 (h2.mp (bb.mp (h1.mpr q1)))
      · exact ⟨fun z => absurd z q1, fun z => absurd z q2⟩
theorem Split.stay {n home : Nat} {gs gs' : List (List Nat)} {hl hl' hit : List Nat} (h : Split n gs gs' hl hl' home hit) {s x : Nat} (e : hl[s]? = some x) (ne : x ≠ home) : hl'[s]? = some x := by
  obtain ⟨B, hB, _⟩ := h.map
  rw [hB s, if_neg (fun z => ne (by rw [e] at z; exact Option.some.inj z.1))]
  exact e
theorem Split.co {n home : Nat} {gs gs' : List (List Nat)} {hl hl' hit : List Nat} (h : Split n gs gs' hl hl' home hit) {s t : Nat} (e : hl[s]? = hl[t]?) (hst : hl[s]? = some home → (s ∈ hit ↔ t ∈ hit)) : hl'[s]? = hl'[t]? := by
  obtain ⟨B, hB, hc⟩ := h.map
  rw [hB s, hB t]
  by_cases c : hl[s]? = some home
  · have c' : hl[t]? = some home := by rw [← e]; exact c
    have bb : B s = true ↔ B t = true := by
      rcases hc with hc | hc
      · rw [hc s c, hc t c', hst c]
      · rw [hc s c, hc t c', hst c]
    by_cases b : B s = true
    · rw [if_pos ⟨c, b⟩, if_pos ⟨c', bb.mp b⟩]
    · rw [if_neg (fun z => b z.2), if_neg (fun z => b (bb.mpr z.2)), e]
  · rw [if_neg (fun z => c z.1), if_neg (fun z => c (by rw [e]; exact z.1)), e]
/-- within a letter: the homes told so far are parted -/
structure HInv (rows : List (List Nat)) (bs : List Bool) (n L k1 : Nat) (hl1 F : List Nat) (es : List Ent) (j : Nat) (gs : List (List Nat)) (hl : List Nat) : Prop where
  part : Part n gs hl
  co : ∀ s t, s < n → t < n → Eqv rows bs L s t → hl[s]? = hl[t]?
  ref : Ref n k1 hl1 hl
  kept : ∀ (s h : Nat), hl1[s]? = some h → (∀ (i : Nat) (e : Ent), i < j → es[i]? = some e → e.1 ≠ h) → hl[s]? = some h
  sep : ∀ s t, s < n → t < n → hl[s]? = hl[t]? → (∃ (i : Nat) (e : Ent), i < j ∧ es[i]? = some e ∧ hl1[s]? = some e.1) → (s ∈ F ↔ t ∈ F)
  grow : k1 ≤ gs.length
theorem HInv.step {rows : List (List Nat)} {bs : List Bool} {n L k1 j : Nat} {hl1 F : List Nat} {es : List Ent} {gs gs' : List (List Nat)} {hl hl' : List Nat} {e : Ent} (h : HInv rows bs n L k1 hl1 F es j gs hl) (he : es[j]? = some e) (nd : (es.map (·.1)).Nodup) (hx : e.2.2 = F.filter fun s => decide (hl1[s]? = some e.1))
    (cl : ∀ s t, s < n → t < n → Eqv rows bs L s t → (s ∈ F ↔ t ∈ F)) (sp : Split n gs gs' hl hl' e.1 e.2.2) : HInv rows bs n L k1 hl1 F es (j + 1) gs' hl' := by
  have keyne : ∀ (i : Nat) (e' : Ent), i < j → es[i]? = some e' → e'.1 ≠ e.1 := fun i e' hi hi' z => by
    have a : (es.map (·.1))[i]? = some e'.1 := by rw [List.getElem?_map, hi']; rfl
    have b : (es.map (·.1))[j]? = some e'.1 := by rw [List.getElem?_map, he, z]; rfl
    have := nd_ix nd a b
    omega
  have mem : ∀ s, hl1[s]? = some e.1 → (s ∈ e.2.2 ↔ s ∈ F) := fun s hs => by
    rw [hx, List.mem_filter]
    exact ⟨fun z => z.1, fun z => ⟨z, decide_eq_true hs⟩⟩
  have back : ∀ s, hl[s]? = some e.1 → e.1 < k1 → hl1[s]? = some e.1 := fun s hs lt => h.ref.low s _ hs lt
  have r2 := sp.ref h.part
  refine ⟨sp.part, fun s t hs ht q => sp.co (h.co s t hs ht q) fun hh => ?_, h.ref.trans r2 h.grow, fun s x hs hn => ?_, fun s t hs ht q hi => ?_, Nat.le_trans h.grow sp.grow⟩
  · rw [hx, List.mem_filter, List.mem_filter, cl s t hs ht q]
    have f1 := h.ref.fine s t hs ht (h.co s t hs ht q)
    rw [f1]
  · refine sp.stay (h.kept s x hs fun i e' hi hi' => hn i e' (by omega) hi') fun z => ?_
    exact hn j e (Nat.lt_succ_self j) he z.symm
  · have q' := r2.fine s t hs ht q
    obtain ⟨i, e', hi, hi', hs'⟩ := hi
    by_cases c : i < j
    · exact h.sep s t hs ht q' ⟨i, e', c, hi', hs'⟩
    · have : i = j := by omega
      subst this
      rw [he] at hi'
      cases hi'
      have hs2 : hl[s]? = some e.1 := h.kept s _ hs' fun i e' hi hi' => keyne i e' hi hi'
      have := sp.sep h.part hs ht q hs2
      rw [mem s hs', mem t (by rw [← h.ref.fine s t hs ht q']; exact hs')] at this
      exact this
/-- by letters: behind c of them the targets are told apart -/
structure LInv (rows : List (List Nat)) (bs : List Bool) (n L k0 : Nat) (hl0 g : List Nat) (c : Nat) (gs : List (List Nat)) (hl : List Nat) : Prop where
  part : Part n gs hl
  co : ∀ s t, s < n → t < n → Eqv rows bs L s t → hl[s]? = hl[t]?
  ref : Ref n k0 hl0 hl
  sep : ∀ s t a, s < n → t < n → hl[s]? = hl[t]? → a < c → (dl rows s a ∈ g ↔ dl rows t a ∈ g)
  grow : k0 ≤ gs.length
theorem HInv.last {rows : List (List Nat)} {bs : List Bool} {n L k0 c : Nat} {hl0 hl1 g F : List Nat} {es : List Ent} {gs1 gs : List (List Nat)} {hl : List Nat} (l : LInv rows bs n L k0 hl0 g c gs1 hl1) (h : HInv rows bs n L gs1.length hl1 F es es.length gs hl) (hF : ∀ s, s ∈ F ↔ s < n ∧ dl rows s c ∈ g)
    (all : ∀ s ∈ F, ∃ e ∈ es, hl1[s]? = some e.1) : LInv rows bs n L k0 hl0 g (c + 1) gs hl := by
  refine ⟨h.part, h.co, l.ref.trans h.ref l.grow, fun s t a hs ht q ha => ?_, Nat.le_trans l.grow h.grow⟩
  have q1 := h.ref.fine s t hs ht q
  by_cases e : a < c
  · exact l.sep s t a hs ht q1 e
  · have : a = c := by omega
    subst this
    have key : s ∈ F ↔ t ∈ F := by
      by_cases z : ∃ (i : Nat) (e : Ent), i < es.length ∧ es[i]? = some e ∧ hl1[s]? = some e.1
      · exact h.sep s t hs ht q z
      · refine ⟨fun y => ?_, fun y => ?_⟩
        · obtain ⟨e, he, q2⟩ := all s y
          obtain ⟨i, hi⟩ := List.mem_iff_getElem?.mp he
          exact absurd ⟨i, e, (List.getElem?_eq_some_iff.mp hi).1, hi, q2⟩ z
        · obtain ⟨e, he, q2⟩ := all t y
          obtain ⟨i, hi⟩ := List.mem_iff_getElem?.mp he
          exact absurd ⟨i, e, (List.getElem?_eq_some_iff.mp hi).1, hi, by rw [q1]; exact q2⟩ z
    rw [hF s, hF t] at key
    exact ⟨fun z => (key.mp ⟨hs, z⟩).2, fun z => (key.mpr ⟨ht, z⟩).2⟩
theorem LInv.last {rows : List (List Nat)} {bs : List Bool} {n L a : Nat} {hl0 g : List Nat} {gs0 gs : List (List Nat)} {hl : List Nat} (p : PInv rows bs n L a gs0 hl0) (ha : gs0[a]? = some g) (l : LInv rows bs n L gs0.length hl0 g L gs hl) : PInv rows bs n L (a + 1) gs hl := by
  have hlt : a < gs0.length := (List.getElem?_eq_some_iff.mp ha).1
  refine ⟨l.part, l.co, fun s t hs ht q => p.fin s t hs ht (l.ref.fine s t hs ht q), fun s t c x y hs ht hc q hx hy lx ly => ?_⟩
  have hx0 := l.ref.low _ _ hx (by omega)
  have hy0 := l.ref.low _ _ hy (by omega)
  have sp := l.sep s t c hs ht q hc
  rw [p.part.mem a g ha, p.part.mem a g ha, hx0, hy0] at sp
  by_cases e1 : x = a
  · rw [e1] at sp
    have := sp.mp rfl
    rw [e1]
    exact (Option.some.inj this).symm
  · by_cases e2 : y = a
    · rw [e2] at sp
      exact absurd (Option.some.inj (sp.mpr rfl)) e1
    · exact p.st s t c x y hs ht hc (l.ref.fine s t hs ht q) hx0 hy0 (by omega) (by omega)
theorem flat_mem {rows : List (List Nat)} {n L c : Nat} {g : List Nat} (k : TabOk n L rows) (hc : c < L) (hg : ∀ s ∈ g, s < n) : ∀ s, s ∈ flat ((List.range n).map (bkF rows n c)) g ↔ s < n ∧ dl rows s c ∈ g := fun s => by
  have wd : ∀ t, t < n → ((List.range n).map (bkF rows n c)).getD t [] = bkF rows n c t := fun t ht => by
    rw [List.getD_eq_getElem?_getD, List.getElem?_map, List.getElem?_range ht]
    rfl
  have bm : ∀ t, s ∈ bkF rows n c t ↔ s < n ∧ dl rows s c = t := fun t => by
    unfold bkF
    rw [List.mem_filter, List.mem_range, decide_eq_true_iff]
  unfold flat
  rw [List.mem_flatten]
  constructor
  · rintro ⟨l, hl, hs⟩
    obtain ⟨t, ht, rfl⟩ := List.mem_map.mp hl
    rw [wd t (hg t ht), bm t] at hs
    exact ⟨hs.1, by rw [hs.2]; exact ht⟩
  · intro h
    exact ⟨_, List.mem_map.mpr ⟨_, h.2, rfl⟩, by rw [wd _ (hg _ h.2), bm]; exact ⟨h.1, rfl⟩⟩
theorem flat_nd {rows : List (List Nat)} {n c : Nat} : ∀ {g : List Nat}, g.Nodup → (∀ s ∈ g, s < n) → (flat ((List.range n).map (bkF rows n c)) g).Nodup
  | [], _, _ => List.nodup_nil
  | t :: r, nd, hg => by
    have wd : ∀ t, t < n → ((List.range n).map (bkF rows n c)).getD t [] = bkF rows n c t := fun t ht => by
      rw [List.getD_eq_getElem?_getD, List.getElem?_map, List.getElem?_range ht]
      rfl
    have nd' := List.nodup_cons.mp nd
    show (((List.range n).map (bkF rows n c)).getD t [] ++ flat ((List.range n).map (bkF rows n c)) r).Nodup
    rw [wd t (hg t (List.mem_cons_self ..)), List.nodup_append]
    refine ⟨List.nodup_range.filter _, flat_nd nd'.2 fun s hs => hg s (List.mem_cons_of_mem _ hs), fun x hx y hy e => ?_⟩
    subst e
    unfold flat at hy
    obtain ⟨l, hl, hs⟩ := List.mem_flatten.mp hy
    obtain ⟨t', ht', rfl⟩ := List.mem_map.mp hl
    rw [wd t' (hg t' (List.mem_cons_of_mem _ ht'))] at hs
    have a := of_decide_eq_true (List.mem_filter.mp hx).2
    have b := of_decide_eq_true (List.mem_filter.mp hs).2
    exact nd'.1 (by rw [← a, b]; exact ht')
end LH

namespace LH
open PySem PySem.Spec PyProof.Rows L2
theorem find_nd {es : List Ent} {j : Nat} {e : Ent} (nd : (es.map (·.1)).Nodup) (h : es[j]? = some e) : (es.find? fun x => decide (x.1 = e.1)) = some e := by
  induction es generalizing j with
  | nil => simp at h
  | cons a r ih =>
    rw [List.map_cons, List.nodup_cons] at nd
    rw [List.find?_cons]
    cases j with
    | zero =>
      cases h
      simp
    | succ j =>
      have h' : r[j]? = some e := by simpa using h
      have hne : ¬ a.1 = e.1 := fun z => nd.1 (by rw [z]; exact List.mem_map.mpr ⟨e, List.mem_of_getElem? h', rfl⟩)
      simp only [hne, decide_false]
      exact ih nd.2 h'
theorem ek_get {es : List Ent} {i : Nat} {k : Key} {v : V} (h : (ek es)[i]? = some (k, v)) : ∃ e, es[i]? = some e ∧ k = Sum.inl (e.1 : Int) ∧ v = .ref e.2.1 := by
  rw [List.getElem?_map] at h
  cases e : es[i]? with
  | none =>
    rw [e] at h
    cases h
  | some s =>
    rw [e] at h
    cases h
    exact ⟨s, rfl, rfl, rfl⟩
theorem BK.off {H H' : Hp} {bk gr ho : Addr} {cs as : List Addr} {bss : List (List Addr)} {gs : List (List Nat)} {n : Nat} {F : Nat → Nat → List Nat} (h : BK H bk cs bss n F) (G : GrpAt H gr as gs) (nB : ∀ b, b = bk ∨ b ∈ cs ∨ b ∈ bss.flatten → b ≠ gr ∧ b ≠ ho) (off : OffG gr ho as H H') : BK H' bk cs bss n F := by
  have key : ∀ b xs, (b = bk ∨ b ∈ cs ∨ b ∈ bss.flatten) → H b = some (.lst xs) → H' b = some (.lst xs) := fun b xs hb e => off b _ (nB b hb).1 (nB b hb).2 (G.not e (by intro g z; cases z)) e
  refine ⟨key _ _ (.inl rfl) h.top, h.len, fun c a bs x y => ?_, fun c t bs b x y => ?_, h.nd⟩
  · obtain ⟨z1, z2⟩ := h.col c a bs x y
    exact ⟨key _ _ (.inr (.inl (List.mem_of_getElem? x))) z1, z2⟩
  · exact key _ _ (.inr (.inr (List.mem_flatten.mpr ⟨bs, List.mem_of_getElem? x, List.mem_of_getElem? y⟩))) (h.cell c t bs b x y)
theorem BK.lol {H : Hp} {bk : Addr} {cs : List Addr} {bss : List (List Addr)} {n : Nat} {F : Nat → Nat → List Nat} (h : BK H bk cs bss n F) {c : Nat} {a : Addr} (ha : cs[c]? = some a) : ∃ bs, LolAt H a bs ((List.range n).map (F c)) := by
  have hc : c < bss.length := by
    rw [← h.len]
    exact (List.getElem?_eq_some_iff.mp ha).1
  obtain ⟨z1, z2⟩ := h.col c a _ ha (List.getElem?_eq_getElem hc)
  refine ⟨bss[c], z1, by rw [List.length_map, List.length_range]; exact z2, fun t b w x y => ?_⟩
  have ht : t < n := by
    have := (List.getElem?_eq_some_iff.mp x).1
    omega
  rw [List.getElem?_map, List.getElem?_range ht] at y
  cases y
  exact h.cell c t _ b (List.getElem?_eq_getElem hc) x
theorem PInv.start {rows : List (List Nat)} {bs : List Bool} {n L : Nat} {gs : List (List Nat)} {hl : List Nat} (pr : Pre bs gs) (hn : bs.length = n) (len : hl.length = n) (hh : ∀ (s h : Nat) (g : List Nat), gs[h]? = some g → s ∈ g → hl[s]? = some h) : PInv rows bs n L 0 gs hl := by
  have bk : ∀ (s h : Nat), hl[s]? = some h → ∃ g, gs[h]? = some g ∧ s ∈ g := fun s h e => by
    have hs : s < n := by
      rw [← len]
      exact (List.getElem?_eq_some_iff.mp e).1
    obtain ⟨h', g, hg, hm⟩ := pr.ex s (by omega)
    have := hh s h' g hg hm
    rw [e] at this
    cases this
    exact ⟨g, hg, hm⟩
  have part : Part n gs hl := ⟨len, fun h g hg s => ⟨fun z => hh s h g hg z, fun z => by
      obtain ⟨g', hg', hm⟩ := bk s h z
      rw [hg] at hg'
      cases hg'
      exact hm⟩, fun s h e => by
      obtain ⟨g, hg, _⟩ := bk s h e
      exact (List.getElem?_eq_some_iff.mp hg).1, fun g hg => (pr.nd g hg).1, fun g hg => (pr.nd g hg).2⟩
  refine ⟨part, fun s t hs ht e => ?_, fun s t hs ht e => ?_, fun s t c p q _ _ _ _ _ _ lp _ => absurd lp (Nat.not_lt_zero p)⟩
  · obtain ⟨h, g, hg, hm⟩ := pr.ex s (by omega)
    have e0 : bs[s]? = bs[t]? := e [] (fun _ h => nomatch h)
    have hm' : t ∈ g := ((pr.same g (List.mem_of_getElem? hg) s hm).2 t (by omega)).mpr e0.symm
    rw [hh s h g hg hm, hh t h g hg hm']
  · obtain ⟨h, g, hg, hm⟩ := pr.ex s (by omega)
    have es := hh s h g hg hm
    rw [es] at e
    obtain ⟨g', hg', hm'⟩ := bk t h e.symm
    rw [hg] at hg'
    cases hg'
    exact (((pr.same g (List.mem_of_getElem? hg) s hm).2 t (by omega)).mp hm').symm
section
variable {P : Program} {w : World} {K : PySem.W.Frag} {mg : Str → Option Value} {base : Heap}
def sp_parted : Sp := fun vs H Q _ => ∃ (tb e : Addr) (ras : List Addr) (rows : List (List Nat)) (bs : List Bool) (n L : Nat), vs = [.ref tb, .ref e] ∧ LolAt H tb ras rows ∧ TabOk n L rows ∧ H e = some (.lst (bs.map V.bl)) ∧ bs.length = n ∧
  ∀ H' ho hl, Same H H' → H ho = none → H' ho = some (.lst (vi hl)) → hl.length = n → (∀ s t, s < n → t < n → (hl[s]? = hl[t]? ↔ Eqv rows bs L s t)) → Q (.ref ho) H'
theorem ok_parted (T : TX K mg) : FnOk P w K mg base CX0 2 T.a_parted T.fd_parted ["table", "ended"] sp_parted := by
  have G_first_groups : FnOk P w K mg base CX0 1 T.a_first_groups T.fd_first_groups ["ended"] sp_first_groups := ok_first_groups T
  have G_ways_back : FnOk P w K mg base CX0 1 T.a_ways_back T.fd_ways_back ["table"] sp_ways_back := ok_ways_back T
  have G_hits_of : FnOk P w K mg base CX0 1 T.a_hits_of T.fd_hits_of ["back", "targets", "homes"] sp_hits_of := ok_hits_of T
  have G_split_group : FnOk P w K mg base CX0 1 T.a_split_group T.fd_split_group ["groups", "homes", "home", "hit"] sp_split_group := ok_split_group T
  refine T.F_parted.ok sc_parted (fun vs H Q E h => ?_) (fun cdv A outer s H vs Q E hr h => ?_)
  · obtain ⟨tb, e, ras, rows, bs, n, L, rfl, _⟩ := h
    rfl
  · obtain ⟨tb, e, ras, rows, bs, n, L, rfl, hT, k, he, hbs, q⟩ := h
    refine ⟨_, (pss_cons (ps_set (i := 2) sc_parted.nd rfl (Or.inl rfl) (pe_call G_first_groups (hr.mono (by decide)) (by rfl) T.g_first_groups T.F_first_groups.kp T.b_first_groups .nil pass0 (pa_cons (pv 1) pa_nil)))
      (pss_cons (ps_setLc (i := 3) (own := [("row", 13)]) (g := gName 13) (tt := tYes) (by rfl) sc_parted.nd rfl rfl (sw_true rfl rfl rfl (by decide +kernel)) (pi_listK K rfl (pv 0)) (blkOk_by (own := [("row", 13)]) (N := N_parted) (by kernel_rfl)) (fun _ _ _ _ _ => (pg_name (i := 13) sc_parted.nd rfl (by first | exact Or.inl rfl | exact Or.inr rfl))) (fun _ _ _ _ _ => pts_nil) (fun _ _ _ _ _ => pe_int))
      (pss_cons (ps_for PassesOwn.never rfl (pi_enumK K rfl (by rfl) T.m_enumerate (pa_cons (pv 2) pa_nil)) (pg_tupK (n := 2) K rfl (by rfl) (pgs_cons (pg_name (i := 4) sc_parted.nd rfl (Or.inl rfl)) (pgs_cons (pg_name (i := 5) sc_parted.nd rfl (Or.inl rfl)) pgs_nil)))
        (pss_one (ps_lock (ps_for PassesOwn.never rfl (pi_keys (pv 5)) (pg_name (i := 6) sc_parted.nd rfl (Or.inl rfl))
            (pss_one (ps_asg (pv 4) (pg_sub (pv 3) (pv 6) set_list)))))))
      (pss_cons (ps_set (i := 7) sc_parted.nd rfl (Or.inl rfl) (pe_call G_ways_back (hr.mono (by decide)) (by rfl) T.g_ways_back T.F_ways_back.kp T.b_ways_back .nil pass0 (pa_cons (pv 0) pa_nil)))
      (pss_cons (ps_set (i := 8) sc_parted.nd rfl (Or.inl rfl) pe_int)
      (pss_cons (ps_while PassesOwn.never (pt_cmpR op_lt (pv 8) (pe_callB (call_lenK K rfl) (by rfl) T.m_len (by decide +kernel) (pa_cons (pv 2) pa_nil)) (nomark _))
        (pss_cons (ps_set (i := 9) sc_parted.nd rfl (Or.inl rfl) (pe_callTy (call_list_dK rfl) (by rfl) T.m_list (by decide +kernel) (pa_cons (pe_ix (ix_listK K rfl) (pv 2) (pv 8) (fun _ _ => rfl)) pa_nil)))
          (pss_cons (ps_for PassesOwn.never rfl (pi_listK K rfl (pv 7)) (pg_name (i := 10) sc_parted.nd rfl (Or.inl rfl))
            (pss_cons (ps_set (i := 11) sc_parted.nd rfl (Or.inl rfl) (pe_call G_hits_of (hr.mono (by decide)) (by rfl) T.g_hits_of T.F_hits_of.kp T.b_hits_of .nil pass0 (pa_cons (pv 10) (pa_cons (pv 9) (pa_cons (pv 3) pa_nil)))))
              (pss_one (ps_lock (ps_for PassesOwn.never rfl (pi_keys (pv 11)) (pg_name (i := 12) sc_parted.nd rfl (Or.inl rfl))
                (pss_one (ps_expr (pe_call G_split_group (hr.mono (by decide)) (by rfl) T.g_split_group T.F_split_group.kp T.b_split_group .nil pass0 (pa_cons (pv 2) (pa_cons (pv 3) (pa_cons (pv 12) (pa_cons (pe_dget (hu_of hr) (pv 11) (pv 12) (fun _ _ => rfl)) pa_nil))))))))))))
          (pss_one (ps_aug (i := 8) sc_parted.nd rfl (Or.inl rfl) pe_int ip_add)))))
      (pss_one (ps_ret (pv 3))))))))), ?_⟩
    have kb := k.big
    have lT : ras.length = n := by
      rw [hT.2.1, k.num]
    -- groups
    refine ⟨.ref e, rfl, e, bs, rfl, he, by omega, fun H1 gr as0 gs0 sm1 fgr fas hG0 pre => ?_⟩
    -- homes
    refine ⟨.ref tb, rfl, tb, rfl, ⟨_, .inl (.inl (sm1 _ _ hT.1))⟩, fun ho nho => ?_⟩
    have fho : H ho = none := sm1.free nho
    have ngh : gr ≠ ho := ne_of_none hG0.1 nho
    refine lc_it (walk_list (K := K) (a := tb) (xs := vr ras)) (fun i H' => H' = upd H1 ho (.lst (vi (List.replicate i 0)))) rfl (fun i H' _ hW => ?_) (fun i x H2 H2' hi hW hY => ?_) (fun H2 hW => ?_)
    · rw [hW]
      exact .inl (.inl (same_new nho _ _ (sm1 _ _ hT.1)))
    · obtain ⟨rfl, hx⟩ := hY
      subst hW
      refine ⟨rfl, lcyes ⟨_, upd_same, ?_, ?_⟩⟩
      · rw [List.length_map, List.length_replicate]
        rw [List.length_map] at hi
        exact Nat.lt_of_le_of_lt (show i ≤ 1000000 by omega) (by decide)
      · rw [upd_upd, List.replicate_succ', ← vi_snoc]
        rfl
    · subst hW
      rw [List.length_map, lT]
      have sm2 : Same H (upd H1 ho (.lst (vi (List.replicate n 0)))) := sm1.trans (same_new nho)
      have hG2 : GrpAt (upd H1 ho (.lst (vi (List.replicate n 0)))) gr as0 gs0 := ⟨same_new nho _ _ hG0.1, hG0.2.1, hG0.2.2.1, fun i a g x y => same_new nho _ _ (hG0.2.2.2 i a g x y)⟩
      have hh2 : (upd H1 ho (.lst (vi (List.replicate n 0)))) ho = some (.lst (vi (List.replicate n 0))) := upd_same
      generalize upd H1 ho (.lst (vi (List.replicate n 0))) = H2 at sm2 hG2 hh2
      -- for number, members in enumerate(groups)
      refine ⟨.ref gr, rfl, gr, _, rfl, .inl (.inl hG2.1), ?_⟩
      refine for_it (walk_enum (K := K) (a := gr) (xs := vr as0)) (fun i σ H' => (∃ hl, H' ho = some (.lst (vi hl)) ∧ hl.length = n ∧ (∀ (s h : Nat) (g : List Nat), h < i → gs0[h]? = some g → s ∈ g → hl[s]? = some h) ∧ Off ho H2 H') ∧ ∃ y4 y5 y6, σ = [some (.ref tb), some (.ref e), some (.ref gr), some (.ref ho), y4, y5, y6, none, none, none, none, none, none, none]) ⟨⟨_, hh2, List.length_replicate, fun s h g z => absurd z (Nat.not_lt_zero h), Off.refl _ _⟩, none, none, none, rfl⟩ (fun i σ H' _ hW => ?_) (fun i x σ H3 H3' hi hW hY => ?_) (fun σ H3 hW => ?_)
      · obtain ⟨⟨hl, _, _, _, of⟩, _⟩ := hW
        exact .inl (.inl (of _ _ ngh hG2.1))
      · obtain ⟨⟨hl, w1, w2, w3, of⟩, y4, y5, y6, rfl⟩ := hW
        obtain ⟨T1, v1, v2, rfl, nT1, rfl, e1, e2⟩ := hY
        cases e1
        rw [List.length_map] at hi
        have hig : i < gs0.length := by
          rw [← hG2.2.2.1]
          exact hi
        have ea : (vr as0)[i]? = some (.ref as0[i]) := by
          rw [List.getElem?_map, List.getElem?_eq_getElem hi]
          rfl
        have e2 := ea.symm.trans e2
        cases e2
        have ha2 := hG2.2.2.2 i _ _ (List.getElem?_eq_getElem hi) (List.getElem?_eq_getElem hig)
        have hg0 : gs0[i]? = some gs0[i] := List.getElem?_eq_getElem hig
        generalize gs0[i] = g at ha2 hg0
        generalize as0[i] = a at ha2
        have nah : a ≠ ho := ne_of ha2 hh2 (by intro z; cases z)
        have prg := pre.same g (List.mem_of_getElem? hg0)
        have T1h : ho ≠ T1 := ne_of_none w1 nT1
        refine ⟨T1, [.int (i : Int), .ref a], rfl, .inl (.inl upd_same), rfl, .int (i : Int), [.ref a], rfl, .ref a, [], rfl, rfl, ?_⟩
        have of3 : Off ho H2 (upd H3 T1 (.tup [.int (i : Int), .ref a])) := of.trans (Off.new nT1)
        have w1' : (upd H3 T1 (.tup [.int (i : Int), .ref a])) ho = some (.lst (vi hl)) := same_new nT1 _ _ w1
        generalize upd H3 T1 (.tup [.int (i : Int), .ref a]) = H4 at of3 w1'
        have ha4 := of3 _ _ nah ha2
        -- for state in members
        refine ⟨a, .dK (dk g), ha4, trivial, fun od => ?_⟩
        refine ⟨.ref a, rfl, a, od, rfl, .inl ⟨dk g, upd_same, ?_⟩⟩
        refine for_it walk_keys (fun j σ H' => (∃ hl, H' ho = some (.lst (vi hl)) ∧ hl.length = n ∧ (∀ (s h : Nat) (g : List Nat), h < i → gs0[h]? = some g → s ∈ g → hl[s]? = some h) ∧ (∀ s ∈ g.take j, hl[s]? = some i) ∧ ∀ b, b ≠ ho → H' b = upd H4 a (.frz od (.dK (dk g))) b) ∧ ∃ y6, σ = [some (.ref tb), some (.ref e), some (.ref gr), some (.ref ho), some (.int (i : Int)), some (.ref a), y6, none, none, none, none, none, none, none]) ⟨⟨hl, by rw [upd_ne (Ne.symm nah)]; exact w1', w2, w3, (fun _ h => nomatch h), fun _ _ => rfl⟩, y6, rfl⟩ (fun j σ H' _ hW => ?_) (fun j x σ H5 H5' hj hW hY => ?_) (fun σ H5 hW => ?_)
        · obtain ⟨⟨hl, _, _, _, _, z⟩, _⟩ := hW
          rw [z a nah, upd_same]
        · obtain ⟨⟨hl, x1, x2, x3, x4, x5⟩, y6, rfl⟩ := hW
          obtain ⟨rfl, kk, v, hkv, rfl⟩ := hY
          obtain ⟨s2, hs2, rfl, rfl⟩ := dk_get hkv
          have hs2m := List.mem_of_getElem? hs2
          have hs2l : s2 < hl.length := by
            have := (prg s2 hs2m).1
            omega
          refine ⟨.int (i : Int), rfl, .ref ho, rfl, .int (s2 : Int), rfl, ho, _, (s2 : Int), s2, rfl, rfl, x1, ixN_nat (by rw [List.length_map]; exact hs2l), ⟨hl.set s2 i, ?_, ?_, fun s h g' lt hg' hm => ?_, fun s hs => ?_, fun b hb => ?_⟩, _, rfl⟩
          · rw [upd_same, vi_set]
          · rw [List.length_set]
            exact x2
          · have : s2 ≠ s := fun z => by
              subst z
              have := pre.disj h i g' g s2 hg' hg0 hm hs2m
              omega
            rw [List.getElem?_set_ne this]
            exact x3 s h g' lt hg' hm
          · rw [take_snoc hs2] at hs
            by_cases z : s2 = s
            · subst z
              rw [List.getElem?_set_self hs2l]
            · rw [List.getElem?_set_ne z]
              rcases List.mem_append.mp hs with y | y
              · exact x4 s y
              · exact absurd (List.mem_singleton.mp y).symm z
          · rw [upd_ne hb]
            exact x5 b hb
        · obtain ⟨⟨hl, x1, x2, x3, x4, x5⟩, y6, rfl⟩ := hW
          have etg : g.take (dk g).length = g := List.take_of_length_le (by rw [List.length_map]; exact Nat.le_refl _)
          rw [etg] at x4
          refine ⟨by rw [x5 a nah, upd_same], ⟨hl, ?_, x2, fun s h g' lt hg' hm => ?_, fun b o hb eb => ?_⟩, _, _, _, rfl⟩
          · rw [upd_ne (Ne.symm nah)]
            exact x1
          · by_cases z : h < i
            · exact x3 s h g' z hg' hm
            · have : h = i := by omega
              subst this
              rw [hg0] at hg'
              cases hg'
              exact x4 s hm
          · by_cases z : b = a
            · subst z
              rw [upd_same]
              rw [ha2] at eb
              exact eb
            · rw [upd_ne z, x5 b hb, upd_ne z]
              exact of3 b o hb eb
      · obtain ⟨⟨hl, w1, w2, w3, of⟩, y4, y5, y6, rfl⟩ := hW
        rw [List.length_map, hG2.2.2.1] at w3
        have pinv : PInv rows bs n L 0 gs0 hl := PInv.start pre hbs w2 fun s h g hg hm => w3 s h g (List.getElem?_eq_some_iff.mp hg).1 hg hm
        have sm3 : Same H H3 := fun b o eb => of b o (ne_of_none eb fho) (sm2 b o eb)
        have hG3 : GrpAt H3 gr as0 gs0 := ⟨of _ _ ngh hG2.1, hG2.2.1, hG2.2.2.1, fun i a g x y => by
          have := hG2.2.2.2 i a g x y
          exact of _ _ (ne_of this hh2 (by intro z; cases z)) this⟩
        -- backs
        refine ⟨.ref tb, rfl, tb, ras, rows, n, L, rfl, hT.same sm3, k, fun H4 bk cs bss sm4 fbk fcs fbs lcs hbk => ?_⟩
        have nB : ∀ b, b = bk ∨ b ∈ cs ∨ b ∈ bss.flatten → b ≠ gr ∧ b ≠ ho := fun b hb => by
          have : H3 b = none := by
            rcases hb with rfl | hb | hb
            · exact fbk
            · exact fcs b hb
            · exact fbs b hb
          exact ⟨Ne.symm (ne_of_none hG3.1 this), Ne.symm (ne_of_none w1 this)⟩
        have hG4 : GrpAt H4 gr as0 gs0 := ⟨sm4 _ _ hG3.1, hG3.2.1, hG3.2.2.1, fun i a g x y => sm4 _ _ (hG3.2.2.2 i a g x y)⟩
        -- while
        refine ⟨fun m σ H' => ∃ (a : Nat) (as : List Addr) (gs : List (List Nat)) (hl : List Nat) (y4 y5 y6 y9 y10 y11 y12 : Option V), m + a = n + 1 ∧ σ = [some (.ref tb), some (.ref e), some (.ref gr), some (.ref ho), y4, y5, y6, some (.ref bk), some (.int (a : Int)), y9, y10, y11, y12, none] ∧ Same H H' ∧ GrpAt H' gr as gs ∧ H' ho = some (.lst (vi hl)) ∧ BK H' bk cs bss n (bkF rows n) ∧ PInv rows bs n L a gs hl ∧ (∀ x ∈ as, H x = none),
          ⟨n + 1, 0, as0, gs0, hl, y4, y5, y6, none, none, none, none, rfl, rfl, sm3.trans sm4, hG4, sm4 _ _ w1, hbk, pinv, fas⟩, fun m σ H5 hW => ?_⟩
        obtain ⟨a, as, gs, hl, y4, y5, y6, y9, y10, y11, y12, em, rfl, sm5, hG5, hh5, hbk5, p5, f5⟩ := hW
        refine ⟨.int (a : Int), rfl, .ref gr, rfl, gr, _, rfl, .inl (.inl (.inl hG5.1)), _, _, rfl, rfl, _, rfl, ite2 (fun z => ?_) (fun z => ?_)⟩
        · have hag : a < gs.length := by
            have := of_decide_eq_true z
            rw [List.length_map, hG5.2.2.1] at this
            omega
          have hags : a < as.length := by
            rw [hG5.2.2.1]
            exact hag
          have hgn := p5.part.many
          refine ⟨fun σ' H' => ∃ (as : List Addr) (gs : List (List Nat)) (hl : List Nat) (y4 y5 y6 y9 y10 y11 y12 : Option V), σ' = [some (.ref tb), some (.ref e), some (.ref gr), some (.ref ho), y4, y5, y6, some (.ref bk), some (.int ((a + 1 : Nat) : Int)), y9, y10, y11, y12, none] ∧ Same H H' ∧ GrpAt H' gr as gs ∧ H' ho = some (.lst (vi hl)) ∧ BK H' bk cs bss n (bkF rows n) ∧ PInv rows bs n L (a + 1) gs hl ∧ (∀ x ∈ as, H x = none), fun σ' H' hN => ?_, ?_⟩
          · obtain ⟨as, gs, hl, y4, y5, y6, y9, y10, y11, y12, r1, r2, r3, r4, r5, r6, r7⟩ := hN
            exact ⟨m - 1, by omega, a + 1, as, gs, hl, y4, y5, y6, y9, y10, y11, y12, by omega, r1, r2, r3, r4, r5, r6, r7⟩
          -- targets
          have va : (vr as)[a]? = some (.ref as[a]) := by
            rw [List.getElem?_map, List.getElem?_eq_getElem hags]
            rfl
          have ha5 := hG5.2.2.2 a _ _ (List.getElem?_eq_getElem hags) (List.getElem?_eq_getElem hag)
          have hga : gs[a]? = some gs[a] := List.getElem?_eq_getElem hag
          generalize gs[a] = g at ha5 hga
          have hgm : ∀ s ∈ g, s < n := fun s hs => by
            have := (List.getElem?_eq_some_iff.mp ((p5.part.mem a g hga s).mp hs)).1
            rw [p5.part.len] at this
            exact this
          have ndg : g.Nodup := p5.part.nd g (List.mem_of_getElem? hga)
          refine ⟨.ref gr, rfl, .int (a : Int), rfl, gr, _, (a : Int), .ref as[a], rfl, rfl, .inl (.inl hG5.1), atI_nat va, as[a], dk g, rfl, ha5, fun tg ntg => ?_⟩
          rw [keys_dk]
          have ftg : H tg = none := sm5.free ntg
          have tgg : tg ≠ gr := Ne.symm (ne_of_none hG5.1 ntg)
          have tgh : tg ≠ ho := Ne.symm (ne_of_none hh5 ntg)
          have linv0 : LInv rows bs n L gs.length hl g 0 gs hl := ⟨p5.part, p5.co, Ref.refl _ _ _, fun s t c _ _ _ lc => absurd lc (Nat.not_lt_zero c), Nat.le_refl _⟩
          -- for back in backs
          refine ⟨.ref bk, rfl, bk, rfl, ⟨_, .inl (.inl (same_new ntg _ _ hbk5.top))⟩, ?_⟩
          refine for_it (walk_list (K := K) (a := bk) (xs := vr cs)) (fun c σ H' => (∃ as gs' hl', Same H H' ∧ GrpAt H' gr as gs' ∧ H' ho = some (.lst (vi hl')) ∧ BK H' bk cs bss n (bkF rows n) ∧ LInv rows bs n L gs.length hl g c gs' hl' ∧ (∀ x ∈ as, H x = none) ∧ H' tg = some (.lst (vi g))) ∧ ∃ y10 y11 y12, σ = [some (.ref tb), some (.ref e), some (.ref gr), some (.ref ho), y4, y5, y6, some (.ref bk), some (.int (a : Int)), some (.ref tg), y10, y11, y12, none]) ⟨⟨as, gs, hl, sm5.trans (same_new ntg), ⟨same_new ntg _ _ hG5.1, hG5.2.1, hG5.2.2.1, fun i a g x y => same_new ntg _ _ (hG5.2.2.2 i a g x y)⟩, same_new ntg _ _ hh5, hbk5.same (same_new ntg), linv0, f5, upd_same⟩, y10, y11, y12, rfl⟩ (fun c σ H' _ hW => ?_) (fun c x σ H6 H6' hc hW hY => ?_) (fun σ H6 hW => ?_)
          · obtain ⟨⟨as, gs', hl', _, _, _, b6, _⟩, _⟩ := hW
            exact .inl (.inl b6.top)
          · obtain ⟨⟨as, gs', hl', sm6, hG6, hh6, hbk6, l6, f6, ht6⟩, y10, y11, y12, rfl⟩ := hW
            obtain ⟨rfl, hx⟩ := hY
            rw [List.length_map] at hc
            have hcL : c < L := by omega
            have ec : (vr cs)[c]? = some (.ref cs[c]) := by
              rw [List.getElem?_map, List.getElem?_eq_getElem hc]
              rfl
            rw [ec] at hx
            cases hx
            obtain ⟨bs', hlol⟩ := hbk6.lol (List.getElem?_eq_getElem hc)
            have hF := flat_mem k hcL hgm
            have ndF := flat_nd (rows := rows) (c := c) ndg hgm
            have lF : (flat ((List.range n).map (bkF rows n c)) g).length ≤ n := by
              have := len_le_of_sub (ys := List.range n) ndF fun x hx => List.mem_range.mpr ((hF x).mp hx).1
              rw [List.length_range] at this
              exact this
            -- hits
            refine ⟨.ref cs[c], rfl, .ref tg, rfl, .ref ho, rfl, cs[c], tg, ho, bs', (List.range n).map (bkF rows n c), g, hl', rfl, hlol, ht6, hh6, fun t ht => by rw [List.length_map, List.length_range]; exact hgm t ht, fun s hs => by rw [l6.part.len]; exact ((hF s).mp hs).1, by omega, fun H7 hd es sm7 fhd ehd ok fes => ?_⟩
            have fhdH : H hd = none := sm6.free fhd
            have hG7 : GrpAt H7 gr as gs' := ⟨sm7 _ _ hG6.1, hG6.2.1, hG6.2.2.1, fun i a g x y => sm7 _ _ (hG6.2.2.2 i a g x y)⟩
            have nE : ∀ e ∈ es, e.2.1 ≠ gr ∧ e.2.1 ≠ ho := fun e he => ⟨Ne.symm (ne_of_none hG6.1 (fes e he)), Ne.symm (ne_of_none hh6 (fes e he))⟩
            have nhd : hd ≠ gr ∧ hd ≠ ho := ⟨Ne.symm (ne_of_none hG6.1 fhd), Ne.symm (ne_of_none hh6 fhd)⟩
            have cl : ∀ s t, s < n → t < n → Eqv rows bs L s t → (s ∈ flat ((List.range n).map (bkF rows n c)) g ↔ t ∈ flat ((List.range n).map (bkF rows n c)) g) := fun s t hs ht ev => by
              rw [hF s, hF t, p5.part.mem a g hga, p5.part.mem a g hga, p5.co _ _ (k.dl_lt hs hcL) (k.dl_lt ht hcL) (ev.step hcL)]
              exact ⟨fun z => ⟨ht, z.2⟩, fun z => ⟨hs, z.2⟩⟩
            -- for home in hits
            refine ⟨hd, .dK (ek es), ehd, trivial, fun od => ?_⟩
            refine ⟨.ref hd, rfl, hd, od, rfl, .inl ⟨ek es, upd_same, ?_⟩⟩
            have up : ∀ b o, b ≠ hd → H7 b = some o → upd H7 hd (.frz od (.dK (ek es))) b = some o := fun b o nb eb => by
              rw [upd_ne nb]
              exact eb
            have lstne : ∀ b xs, H7 b = some (.lst xs) → b ≠ hd := fun b xs eb => ne_of eb ehd (by intro z; cases z)
            have h0 : HInv rows bs n L gs'.length hl' (flat ((List.range n).map (bkF rows n c)) g) es 0 gs' hl' := ⟨l6.part, l6.co, Ref.refl _ _ _, fun s h hs _ => hs, fun s t _ _ _ z => by
              obtain ⟨i, _, lt, _⟩ := z
              exact absurd lt (Nat.not_lt_zero i), Nat.le_refl _⟩
            refine for_it walk_keys (fun j σ H' => (∃ as2 gs2 hl2, Same H H' ∧ GrpAt H' gr as2 gs2 ∧ H' ho = some (.lst (vi hl2)) ∧ BK H' bk cs bss n (bkF rows n) ∧ (∀ x ∈ as2, H x = none) ∧ H' tg = some (.lst (vi g)) ∧ H' hd = some (.frz od (.dK (ek es))) ∧ (∀ e ∈ es, H' e.2.1 = some (.lst (vi e.2.2))) ∧ HInv rows bs n L gs'.length hl' (flat ((List.range n).map (bkF rows n c)) g) es j gs2 hl2) ∧ ∃ y12, σ = [some (.ref tb), some (.ref e), some (.ref gr), some (.ref ho), y4, y5, y6, some (.ref bk), some (.int (a : Int)), some (.ref tg), some (.ref cs[c]), some (.ref hd), y12, none])
              ⟨⟨as, gs', hl', ?_, ⟨?_, hG7.2.1, hG7.2.2.1, fun i x g' hx hg' => ?_⟩, ?_, ?_, f6, ?_, upd_same, fun e' he' => ?_, h0⟩, y12, rfl⟩ (fun j σ H' _ hW => ?_) (fun j x σ H8 H8' hj hW hY => ?_) (fun σ H8 hW => ?_)
            · intro b o eb
              exact up b o (ne_of_none eb fhdH) (sm7 _ _ (sm6 _ _ eb))
            · exact up _ _ (lstne _ _ hG7.1) hG7.1
            · have := hG7.2.2.2 i x g' hx hg'
              refine up _ _ (fun z => ?_) this
              have h1 := f6 x (List.mem_of_getElem? hx)
              have h2 := hG6.2.2.2 i x g' hx hg'
              rw [z, fhd] at h2
              cases h2
            · exact up _ _ (lstne _ _ (sm7 _ _ hh6)) (sm7 _ _ hh6)
            · have hbk7 := hbk6.same sm7
              exact ⟨up _ _ (lstne _ _ hbk7.top) hbk7.top, hbk7.len, fun c' a' bs2 x' y' => by
                obtain ⟨z1, z2⟩ := hbk7.col c' a' bs2 x' y'
                exact ⟨up _ _ (lstne _ _ z1) z1, z2⟩, fun c' t' bs2 b' x' y' => by
                have z1 := hbk7.cell c' t' bs2 b' x' y'
                exact up _ _ (lstne _ _ z1) z1, hbk7.nd⟩
            · exact up _ _ (lstne _ _ (sm7 _ _ ht6)) (sm7 _ _ ht6)
            · exact up _ _ (lstne _ _ (ok.at_ e' he')) (ok.at_ e' he')
            · obtain ⟨⟨as2, gs2, hl2, _, _, _, _, _, _, z, _⟩, _⟩ := hW
              exact z
            · obtain ⟨⟨as2, gs2, hl2, sm8, hG8, hh8, hbk8, f8, ht8, hd8, he8, hi8⟩, y12, rfl⟩ := hW
              obtain ⟨rfl, kk, v, hkv, rfl⟩ := hY
              obtain ⟨en, hen, rfl, rfl⟩ := ek_get hkv
              have henm := List.mem_of_getElem? hen
              have hxe := ok.eq en henm
              have vh : valV (ek es) (Sum.inl (en.1 : Int) : Key) = some (.ref en.2.1) := by
                rw [valV_ek, find_nd ok.nd hen]
                rfl
              have keyne : ∀ (i : Nat) (e' : Ent), i < j → es[i]? = some e' → e'.1 ≠ en.1 := fun i e' hi hi' z => by
                have a1 : (es.map (·.1))[i]? = some e'.1 := by rw [List.getElem?_map, hi']; rfl
                have b1 : (es.map (·.1))[j]? = some e'.1 := by rw [List.getElem?_map, hen, z]; rfl
                have := nd_ix ok.nd a1 b1
                omega
              -- split_group(groups, homes, home, hits[home])
              refine ⟨.ref gr, rfl, .ref ho, rfl, .int (en.1 : Int), rfl, .ref hd, rfl, .int (en.1 : Int), rfl, hd, .ref en.2.1, rfl, .inl ⟨ek es, Sum.inl (en.1 : Int), .inr ⟨od, hd8⟩, rfl, vh.symm⟩, gr, ho, en.2.1, en.1, n, as2, gs2, hl2, en.2.2, rfl, hG8, hh8, he8 en henm, ngh, (nE en henm).1, (nE en henm).2, hi8.part, kb, ?_, ok.ne en henm, fun s hs => ?_, fun H9 as3 gs3 hl3 hG9 hh9 sp off ins => ?_⟩
              · rw [hxe]
                exact ndF.filter _
              · rw [hxe] at hs
                exact hi8.kept s _ (of_decide_eq_true (List.mem_filter.mp hs).2) fun i e' hi hi' => keyne i e' hi hi'
              · have keep : ∀ b o, b ≠ gr → b ≠ ho → H8' b = some o → (∀ g', o ≠ .dK (dk g')) → H9 b = some o := fun b o h1 h2 h3 h4 => off b o h1 h2 (hG8.not h3 h4) h3
                refine ⟨⟨as3, gs3, hl3, fun b o eb => ?_, hG9, hh9, hbk8.off hG8 nB off, fun x hx => ?_, keep _ _ tgg tgh ht8 (by intro g' z; cases z), keep _ _ nhd.1 nhd.2 hd8 (by intro g' z; cases z), fun e' he' => keep _ _ (nE e' he').1 (nE e' he').2 (he8 e' he') (by intro g' z; cases z), hi8.step hen ok.nd hxe cl sp⟩, _, rfl⟩
                · refine off b o (ne_of_none eb fgr) (ne_of_none eb fho) (fun z => ?_) (sm8 _ _ eb)
                  rw [f8 b z] at eb
                  cases eb
                · rcases ins x hx with y | y
                  · exact f8 x y
                  · exact sm8.free y
            · obtain ⟨⟨as2, gs2, hl2, sm8, hG8, hh8, hbk8, f8, ht8, hd8, he8, hi8⟩, y12, rfl⟩ := hW
              rw [List.length_map] at hi8
              have l7 := HInv.last l6 hi8 hF ok.all
              have up2 : ∀ b o, b ≠ hd → H8 b = some o → upd H8 hd (.dK (ek es)) b = some o := fun b o nb eb => by
                rw [upd_ne nb]
                exact eb
              have lst2 : ∀ b xs, H8 b = some (.lst xs) → b ≠ hd := fun b xs eb => ne_of eb hd8 (by intro z; cases z)
              refine ⟨hd8, ⟨as2, gs2, hl2, fun b o eb => up2 b o (ne_of_none eb fhdH) (sm8 _ _ eb), ⟨up2 _ _ (lst2 _ _ hG8.1) hG8.1, hG8.2.1, hG8.2.2.1, fun i x g' hx hg' => ?_⟩, up2 _ _ (lst2 _ _ hh8) hh8, ?_, l7, f8, up2 _ _ (lst2 _ _ ht8) ht8⟩, _, _, _, rfl⟩
              · have := hG8.2.2.2 i x g' hx hg'
                exact up2 _ _ (ne_of this hd8 (by intro z; cases z)) this
              · exact ⟨up2 _ _ (lst2 _ _ hbk8.top) hbk8.top, hbk8.len, fun c' a' bs2 x' y' => by
                  obtain ⟨z1, z2⟩ := hbk8.col c' a' bs2 x' y'
                  exact ⟨up2 _ _ (lst2 _ _ z1) z1, z2⟩, fun c' t' bs2 b' x' y' => by
                  have z1 := hbk8.cell c' t' bs2 b' x' y'
                  exact up2 _ _ (lst2 _ _ z1) z1, hbk8.nd⟩
          · obtain ⟨⟨as, gs', hl', sm6, hG6, hh6, hbk6, l6, f6, ht6⟩, y10, y11, y12, rfl⟩ := hW
            rw [List.length_map, lcs] at l6
            refine ⟨_, rfl, _, _, rfl, rfl, as, gs', hl', y4, y5, y6, _, y10, y11, y12, rfl, sm6, hG6, hh6, hbk6, LInv.last p5 hga l6, f6⟩
        · have hag : gs.length ≤ a := by
            have : ¬ ((a : Int) < ((vr as).length : Nat)) := fun y => z (decide_eq_true y)
            rw [List.length_map, hG5.2.2.1] at this
            omega
          exact ⟨.ref ho, rfl, q H5 ho hl sm5 fho hh5 p5.part.len (p5.last k hag)⟩
end
end LH

namespace LH
open PySem PySem.Spec PyProof.Rows L2
/-! ### merged: one state for each home -/
def isHead (hl : List Nat) (s : Nat) : Bool := (List.range s).all fun t => decide (hl[t]? ≠ hl[s]?)
def headsOf (hl : List Nat) (i : Nat) : List Nat := (List.range i).filter (isHead hl)
/-- the number of a state's home: how many heads stand ahead of its own -/
def numOf (hl : List Nat) (s : Nat) : Nat := (headsOf hl hl.length).findIdx fun h => decide (hl[h]? = hl[s]?)
theorem isHead_iff {hl : List Nat} {s : Nat} : isHead hl s = true ↔ ∀ t, t < s → hl[t]? ≠ hl[s]? := by
  unfold isHead
  rw [List.all_eq_true]
  exact ⟨fun h t ht => of_decide_eq_true (h t (List.mem_range.mpr ht)), fun h t ht => decide_eq_true (h t (List.mem_range.mp ht))⟩
theorem heads_mem {hl : List Nat} {i s : Nat} : s ∈ headsOf hl i ↔ s < i ∧ ∀ t, t < s → hl[t]? ≠ hl[s]? := by
  unfold headsOf
  rw [List.mem_filter, List.mem_range, isHead_iff]
theorem heads_succ (hl : List Nat) (i : Nat) : headsOf hl (i + 1) = if isHead hl i = true then headsOf hl i ++ [i] else headsOf hl i := by
  unfold headsOf
  rw [List.range_succ, List.filter_append]
  by_cases e : isHead hl i = true
  · rw [if_pos e]
    simp [e]
  · rw [if_neg e]
    simp [e]
theorem heads_rise (hl : List Nat) (i : Nat) : (headsOf hl i).Pairwise (· < ·) := List.Pairwise.filter _ List.pairwise_lt_range
/-- every state has its head -/
theorem head_ex (hl : List Nat) : ∀ (s i : Nat), s < i → ∃ h ∈ headsOf hl i, h ≤ s ∧ hl[h]? = hl[s]? := by
  intro s
  induction s using Nat.strongRecOn with
  | ind s ih =>
    intro i hi
    by_cases e : ∀ t, t < s → hl[t]? ≠ hl[s]?
    · exact ⟨s, heads_mem.mpr ⟨hi, e⟩, Nat.le_refl _, rfl⟩
    · obtain ⟨t, ht, q⟩ : ∃ t, t < s ∧ hl[t]? = hl[s]? := by
        by_cases z : ∃ t, t < s ∧ hl[t]? = hl[s]?
        · exact z
        · exact absurd (fun t ht q => z ⟨t, ht, q⟩) e
      obtain ⟨h, hh, le, q'⟩ := ih t ht i (by omega)
      exact ⟨h, hh, by omega, q'.trans q⟩
theorem head_uniq {hl : List Nat} {i h h' : Nat} (a : h ∈ headsOf hl i) (b : h' ∈ headsOf hl i) (e : hl[h]? = hl[h']?) : h = h' := by
  obtain ⟨_, a2⟩ := heads_mem.mp a
  obtain ⟨_, b2⟩ := heads_mem.mp b
  rcases Nat.lt_trichotomy h h' with z | z | z
  · exact absurd e (b2 h z)
  · exact z
  · exact absurd e.symm (a2 h' z)
theorem num_spec {hl : List Nat} {s : Nat} (hs : s < hl.length) : ∃ h, (headsOf hl hl.length)[numOf hl s]? = some h ∧ h ≤ s ∧ hl[h]? = hl[s]? := by
  obtain ⟨h, hh, le, q⟩ := head_ex hl s hl.length hs
  have hex : ∃ x ∈ headsOf hl hl.length, decide (hl[x]? = hl[s]?) = true := ⟨h, hh, decide_eq_true q⟩
  have hlt := List.findIdx_lt_length_of_exists hex
  have hp := List.findIdx_getElem (w := hlt)
  have hp := of_decide_eq_true hp
  refine ⟨_, List.getElem?_eq_getElem hlt, ?_, hp⟩
  have := head_uniq (List.getElem_mem hlt) hh (hp.trans q.symm)
  rw [this]
  exact le
theorem num_of_head {hl : List Nat} {k h : Nat} (hk : (headsOf hl hl.length)[k]? = some h) : numOf hl h = k := by
  have hm := List.mem_of_getElem? hk
  obtain ⟨h', e1, _, e2⟩ := num_spec (heads_mem.mp hm).1
  have := head_uniq (List.mem_of_getElem? e1) hm e2
  subst this
  have nd : (headsOf hl hl.length).Nodup := (heads_rise hl hl.length).imp fun h => Nat.ne_of_lt h
  exact nd_ix nd e1 hk
theorem num_eq {hl : List Nat} {s t : Nat} (hs : s < hl.length) (ht : t < hl.length) : numOf hl s = numOf hl t ↔ hl[s]? = hl[t]? := by
  constructor
  · intro e
    obtain ⟨h, a1, _, a2⟩ := num_spec hs
    obtain ⟨h', b1, _, b2⟩ := num_spec ht
    rw [e] at a1
    rw [a1] at b1
    cases b1
    exact a2.symm.trans b2
  · intro e
    unfold numOf
    rw [e]
def mRows (rows : List (List Nat)) (hl : List Nat) : List (List Nat) := (headsOf hl hl.length).map fun h => (rows.getD h []).map (numOf hl)
def mEnds (bs : List Bool) (hl : List Nat) : List Nat := (List.range (headsOf hl hl.length).length).filter fun k => decide (bs[(headsOf hl hl.length).getD k 0]? = some true)
abbrev nk (hs hl : List Nat) : List (Key × V) := hs.zipIdx.map fun (p : Nat × Nat) => (Sum.inl ((hl.getD p.1 0 : Nat) : Int), V.int (p.2 : Int))
theorem nk_snoc (hs hl : List Nat) (s : Nat) : nk (hs ++ [s]) hl = nk hs hl ++ [(Sum.inl ((hl.getD s 0 : Nat) : Int), V.int (hs.length : Int))] := by
  show List.map _ (hs ++ [s]).zipIdx = _
  rw [List.zipIdx_append, List.map_append]
  simp
theorem valV_nkk {hl : List Nat} (x : Nat) : ∀ (hs : List Nat) (k : Nat), valV ((hs.zipIdx k).map fun (p : Nat × Nat) => ((Sum.inl ((hl.getD p.1 0 : Nat) : Int) : Key), V.int (p.2 : Int))) (Sum.inl (x : Int) : Key) = if (hs.any fun h => decide (hl.getD h 0 = x)) = true then some (.int ((k + hs.findIdx fun h => decide (hl.getD h 0 = x) : Nat) : Int)) else none
  | [], _ => rfl
  | h :: r, k => by
    rw [List.zipIdx_cons, List.map_cons, List.any_cons, List.findIdx_cons]
    by_cases q : hl.getD h 0 = x
    · rw [valV_pos (by show (Sum.inl ((hl.getD h 0 : Nat) : Int) : Key) = _; rw [q])]
      simp only [q, decide_true, Bool.true_or, if_true, cond_true, Nat.add_zero]
    · have ne : ¬ (((h, k) : Nat × Nat) |> fun p => ((Sum.inl ((hl.getD p.1 0 : Nat) : Int) : Key), V.int (p.2 : Int))).1 = (Sum.inl (x : Int) : Key) := fun z => q (by
        have z1 : ((hl.getD h 0 : Nat) : Int) = (x : Int) := Sum.inl.inj z
        exact Int.ofNat.inj z1)
      rw [valV_neg ne, valV_nkk x r (k + 1)]
      simp only [q, decide_false, Bool.false_or, cond_false]
      by_cases e : (r.any fun h => decide (hl.getD h 0 = x)) = true
      · rw [if_pos e, if_pos e]
        congr 2
        omega
      · rw [if_neg e, if_neg e]
theorem valV_nk {hl : List Nat} (x : Nat) (hs : List Nat) : valV (nk hs hl) (Sum.inl (x : Int) : Key) = if (hs.any fun h => decide (hl.getD h 0 = x)) = true then some (.int ((hs.findIdx fun h => decide (hl.getD h 0 = x) : Nat) : Int)) else none := by
  have := valV_nkk (hl := hl) x hs 0
  rw [Nat.zero_add] at this
  exact this
end LH

namespace LH
open PySem PySem.Spec PyProof.Rows L2
theorem findIdx_congr' {α : Type} {p q : α → Bool} : ∀ {xs : List α}, (∀ x ∈ xs, p x = q x) → xs.findIdx p = xs.findIdx q
  | [], _ => rfl
  | x :: r, h => by
    rw [List.findIdx_cons, List.findIdx_cons, h x (List.mem_cons_self ..), findIdx_congr' fun y hy => h y (List.mem_cons_of_mem _ hy)]
theorem getD_iff {hl : List Nat} {h x : Nat} (hh : h < hl.length) : hl.getD h 0 = x ↔ hl[h]? = some x := by
  rw [List.getD_eq_getElem?_getD, List.getElem?_eq_getElem hh]
  simp
theorem heads_any {hl : List Nat} {i x : Nat} (hi : hl[i]? = some x) : ((headsOf hl i).any fun h => decide (hl.getD h 0 = x)) = !isHead hl i := by
  have hil := (List.getElem?_eq_some_iff.mp hi).1
  rw [Bool.eq_iff_iff, List.any_eq_true, Bool.not_eq_true', Bool.eq_false_iff]
  constructor
  · rintro ⟨h, hm, hd⟩ z
    have hm' := (heads_mem.mp hm).1
    exact isHead_iff.mp z h hm' (by rw [(getD_iff (by omega)).mp (of_decide_eq_true hd), hi])
  · intro z
    obtain ⟨t, ht, q⟩ : ∃ t, t < i ∧ hl[t]? = hl[i]? := by
      by_cases y : ∃ t, t < i ∧ hl[t]? = hl[i]?
      · exact y
      · exact absurd (isHead_iff.mpr fun t ht q => y ⟨t, ht, q⟩) z
    obtain ⟨h, hm, le, q'⟩ := head_ex hl t i ht
    refine ⟨h, hm, decide_eq_true ((getD_iff ?_).mpr ?_)⟩
    · have := (heads_mem.mp hm).1
      omega
    · rw [q', q, hi]
theorem num_find {hl : List Nat} {t x : Nat} (ht : hl[t]? = some x) : valV (nk (headsOf hl hl.length) hl) (Sum.inl (x : Int) : Key) = some (.int (numOf hl t : Nat)) := by
  have htl := (List.getElem?_eq_some_iff.mp ht).1
  have congr_ : ∀ h ∈ headsOf hl hl.length, decide (hl.getD h 0 = x) = decide (hl[h]? = hl[t]?) := fun h hm => by
    rw [ht]
    have := (heads_mem.mp hm).1
    rw [Bool.eq_iff_iff, decide_eq_true_iff, decide_eq_true_iff, getD_iff this]
  obtain ⟨h, hm, _, q⟩ := head_ex hl t hl.length htl
  rw [valV_nk, if_pos]
  · rw [findIdx_congr' congr_]
    rfl
  · exact List.any_eq_true.mpr ⟨h, hm, by rw [congr_ h hm]; exact decide_eq_true q⟩
theorem heads_len (hl : List Nat) (i : Nat) : (headsOf hl i).length ≤ i := by
  unfold headsOf
  refine Nat.le_trans (List.length_filter_le _ _) ?_
  rw [List.length_range]
  exact Nat.le_refl _
theorem nk_len (hs hl : List Nat) : (nk hs hl).length = hs.length := by
  show (List.map _ _).length = _
  rw [List.length_map, List.length_zipIdx]
section
variable {P : Program} {w : World} {K : PySem.W.Frag} {mg : Str → Option Value} {base : Heap}
def sp_merged : Sp := fun vs H Q _ => ∃ (z : Str) (tb e ho : Addr) (ras : List Addr) (rows : List (List Nat)) (bs : List Bool) (hl : List Nat) (n L : Nat), vs = [.str z, .ref tb, .ref e, .ref ho] ∧ LolAt H tb ras rows ∧ TabOk n L rows ∧ H e = some (.lst (bs.map V.bl)) ∧ bs.length = n ∧ H ho = some (.lst (vi hl)) ∧ hl.length = n ∧
  ∀ H' p, Same H H' → MachAt H' p ⟨z, mRows rows hl, mEnds bs hl⟩ → Q (.ref p) H'
theorem ok_merged (T : TX K mg) : FnOk P w K mg base CX0 1 T.a_merged T.fd_merged ["letters", "table", "ended", "homes"] sp_merged := by
  refine T.F_merged.ok sc_merged (fun vs H Q E h => ?_) (fun cdv A outer s H vs Q E hr h => ?_)
  · obtain ⟨z, tb, e, ho, ras, rows, bs, hl, n, L, rfl, _⟩ := h
    rfl
  · obtain ⟨z, tb, e, ho, ras, rows, bs, hl, n, L, rfl, hT, k, he, hbs, hho, hln, q⟩ := h
    refine ⟨_, (pss_cons (ps_set (i := 4) sc_merged.nd rfl (Or.inr rfl) pe_dnewK)
      (pss_cons (ps_set (i := 5) sc_merged.nd rfl (Or.inl rfl) (pe_lst pa_nil))
      (pss_cons (ps_for PassesOwn.never rfl (pi_enumK K rfl (by rfl) T.m_enumerate (pa_cons (pv 3) pa_nil)) (pg_tupK (n := 2) K rfl (by rfl) (pgs_cons (pg_name (i := 6) sc_merged.nd rfl (Or.inl rfl)) (pgs_cons (pg_name (i := 7) sc_merged.nd rfl (Or.inl rfl)) pgs_nil)))
        (pss_one (ps_if (pt_cmp (pc_dnotin (hu_of hr) (pv 7) (pv 4)))
            (pss_cons (ps_dput (hu_of hr) (pv 4) (pv 7) (pe_callB (call_lenK K rfl) (by rfl) T.m_len (by decide +kernel) (pa_cons (pv 5) pa_nil)) rfl)
              (pss_one (ps_expr (pe_bmK K rfl PySem.F.plainAttrs_list PySem.F.slot_list_append PySem.F.type_list_append mt_append (pv 5) (pa_cons (pv 6) pa_nil)))))
            pss_nil)))
      (pss_cons (ps_setLc (i := 8) (own := [("head", 10)]) (g := gName 10) (tt := tYes) (by rfl) sc_merged.nd rfl rfl (sw_true rfl rfl rfl (by decide +kernel)) (pi_listK K rfl (pv 5)) (blkOk_by (own := [("head", 10)]) (N := N_merged) (by kernel_rfl)) (fun _ _ _ _ _ => (pg_name (i := 10) sc_merged.nd rfl (by first | exact Or.inl rfl | exact Or.inr rfl))) (fun _ _ _ _ _ => pts_nil) (fun _ _ _ _ _ => (pe_callTy (call_tupleK K rfl) (by rfl) T.m_tuple (by decide +kernel) (pa_cons (pe_lc (own := [("target", 11)]) (g := gName 11) (tt := tYes) (by rfl) sc_merged.nd (pi_listK K rfl (pe_ix (ix_listK K rfl) (pv 1) (pv 10) (fun _ _ => rfl))) (blkOk_by (own := [("target", 11)]) (N := N_merged) (by kernel_rfl)) (fun _ _ _ _ _ => (pg_name (i := 11) sc_merged.nd rfl (by first | exact Or.inl rfl | exact Or.inr rfl))) (fun _ _ _ _ _ => pts_nil) (fun _ _ _ _ _ => (pe_dget (hu_of hr) (pv 4) (pe_ix (ix_listK K rfl) (pv 3) (pv 11) (fun _ _ => rfl)) (fun _ _ => rfl)))) pa_nil))))
      (pss_cons (ps_setLc (i := 9) (own := [("number", 12), ("head", 10)]) (by rfl) sc_merged.nd rfl rfl (sw_true rfl rfl rfl (by decide +kernel)) (pi_enumK K rfl (by rfl) T.m_enumerate (pa_cons (pv 5) pa_nil)) (blkOk_by (own := [("number", 12), ("head", 10)]) (N := N_merged) (by kernel_rfl)) (fun _ _ _ _ _ => (pg_tupK (n := 2) K rfl (by rfl) (pgs_cons (pg_name (i := 12) sc_merged.nd rfl (by first | exact Or.inl rfl | exact Or.inr rfl)) (pgs_cons (pg_name (i := 10) sc_merged.nd rfl (by first | exact Or.inl rfl | exact Or.inr rfl)) pgs_nil)))) (fun _ _ _ _ _ => (pts_one (pt_val (pe_ix (ix_listK K rfl) (pv 2) (pv 10) (fun _ _ => rfl))))) (fun _ _ _ _ _ => (pv 12)))
      (pss_one (ps_ret (pe_tup (pa_cons (pv 0) (pa_cons (pe_callTy (call_tupleK K rfl) (by rfl) T.m_tuple (by decide +kernel) (pa_cons (pv 8) pa_nil)) (pa_cons (pe_callTy (call_tupleK K rfl) (by rfl) T.m_tuple (by decide +kernel) (pa_cons (pv 9) pa_nil)) pa_nil))))))))))), ?_⟩
    have kb := k.big
    have sl : ∀ m, m ≤ 1000000 → m < sizeLine := fun m hm => Nat.lt_of_le_of_lt hm (by decide)
    -- numbers, heads
    refine fun nm nnm => ⟨by show 0 ≤ sizeLine; decide, fun hd nhd => ?_⟩
    have dnh : nm ≠ hd := ne_of_none upd_same nhd
    have fhd : H hd = none := by
      rw [upd_ne (Ne.symm dnh)] at nhd
      exact nhd
    have sm0 : Same H (upd (upd H nm (.dK [])) hd (.lst [])) := (same_new nnm).trans (same_new nhd)
    refine ⟨.ref ho, rfl, ho, _, rfl, .inl (.inl (sm0 _ _ hho)), ?_⟩
    refine for_it (walk_enum (K := K) (a := ho) (xs := vi hl)) (fun i σ H' => (Same H H' ∧ H' nm = some (.dK (nk (headsOf hl i) hl)) ∧ H' hd = some (.lst (vi (headsOf hl i)))) ∧ ∃ y6 y7, σ = [some (.str z), some (.ref tb), some (.ref e), some (.ref ho), some (.ref nm), some (.ref hd), y6, y7, none, none, none, none, none]) ⟨⟨sm0, by rw [upd_ne dnh, upd_same]; rfl, upd_same⟩, none, none, rfl⟩ (fun i σ H' _ hW => .inl (.inl (hW.1.1 _ _ hho))) (fun i x σ H1 H1' hi hW hY => ?_) (fun σ H1 hW => ?_)
    · obtain ⟨⟨sm, h1, h2⟩, y6, y7, rfl⟩ := hW
      obtain ⟨T1, v1, v2, rfl, nT1, rfl, e1, e2⟩ := hY
      cases e1
      obtain ⟨u, hu, rfl⟩ := int_at e2
      rw [List.length_map] at hi
      refine ⟨T1, [.int (i : Int), .int (u : Int)], rfl, .inl (.inl upd_same), rfl, .int (i : Int), [.int (u : Int)], rfl, .int (u : Int), [], rfl, rfl, ?_⟩
      have sm1 : Same H (upd H1 T1 (.tup [.int (i : Int), .int (u : Int)])) := sm.trans (same_new nT1)
      have g1 := same_new (o := .tup [.int (i : Int), .int (u : Int)]) nT1 _ _ h1
      have g2 := same_new (o := .tup [.int (i : Int), .int (u : Int)]) nT1 _ _ h2
      generalize upd H1 T1 (.tup [.int (i : Int), .int (u : Int)]) = H2 at sm1 g1 g2
      have hlh := heads_len hl i
      refine ⟨.int (u : Int), rfl, .ref nm, rfl, nm, _, rfl, DGet.k (k := Sum.inl (u : Int)) g1, _, rfl, ?_⟩
      rw [valV_nk, heads_any hu]
      cases eh : isHead hl i with
      | true =>
        rw [Bool.not_true, if_neg Bool.false_ne_true]
        refine iteT ?_
        have ep : putK (nk (headsOf hl i) hl) (Sum.inl (u : Int) : Key) (V.int ((headsOf hl i).length : Int)) = nk (headsOf hl (i + 1)) hl := by
          unfold putK
          rw [valV_any, valV_nk, heads_any hu, eh, Bool.not_true, if_neg Bool.false_ne_true, if_neg (by decide), heads_succ, if_pos eh, nk_snoc]
          rw [(getD_iff (by omega)).mpr hu]
        refine ⟨.ref hd, rfl, hd, _, rfl, .inl (.inl (.inl g2)), .ref nm, rfl, .int (u : Int), rfl, nm, _, rfl, DPut.k (k := Sum.inl (u : Int)) g1 (by rw [nk_len]; exact sl _ (by omega)), ?_⟩
        have g2' : (upd H2 nm (.dK (putK (nk (headsOf hl i) hl) (Sum.inl (u : Int) : Key) (V.int ((vi (headsOf hl i)).length : Int))))) hd = some (.lst (vi (headsOf hl i))) := by
          rw [upd_ne (Ne.symm dnh)]
          exact g2
        refine ⟨.ref hd, rfl, .inl ⟨rfl, _, .inl (.inl g2')⟩, .int (i : Int), rfl, hd, _, _, rfl, rfl, g2', by rw [List.length_map]; exact sl _ (by omega), ⟨?_, ?_, ?_⟩, _, _, rfl⟩
        · intro b o eb
          rw [upd_ne (ne_of_none eb fhd), upd_ne (ne_of_none eb nnm)]
          exact sm1 _ _ eb
        · rw [upd_ne dnh, upd_same, List.length_map, ep]
        · rw [upd_same, vi_snoc, heads_succ, if_pos eh]
      | false =>
        rw [Bool.not_false, if_pos rfl]
        refine iteF ?_
        refine ⟨⟨sm1, ?_, ?_⟩, _, _, rfl⟩
        · rw [heads_succ, if_neg (by rw [eh]; decide)]
          exact g1
        · rw [heads_succ, if_neg (by rw [eh]; decide)]
          exact g2
    · obtain ⟨⟨sm, h1, h2⟩, y6, y7, rfl⟩ := hW
      rw [List.length_map] at h1 h2
      have hlh := heads_len hl hl.length
      -- rows
      refine ⟨.ref hd, rfl, hd, rfl, ⟨_, .inl (.inl h2)⟩, fun D nD => ?_⟩
      have fD : H D = none := sm.free nD
      refine lc_it (walk_list (K := K) (a := hd) (xs := vi (headsOf hl hl.length))) (fun i H' => ∃ as, Same H1 H' ∧ H' D = some (.lst (vr as)) ∧ RowsAt H' as ((mRows rows hl).take i)) ⟨[], same_new nD, upd_same, ⟨rfl, fun i a row x => by simp at x⟩⟩ (fun i H' _ hW => ?_) (fun i x H2 H2' hi hW hY => ?_) (fun H2 hW => ?_)
      · obtain ⟨as, s2, _⟩ := hW
        exact .inl (.inl (s2 _ _ h2))
      · obtain ⟨as, s2, eD, ra⟩ := hW
        obtain ⟨rfl, hx⟩ := hY
        obtain ⟨h, hh, rfl⟩ := int_at hx
        rw [List.length_map] at hi
        have hm := List.mem_of_getElem? hh
        have hhn : h < n := by
          have := (heads_mem.mp hm).1
          omega
        obtain ⟨r, er, eg, lr, lt⟩ := k.at_ hhn
        obtain ⟨b, hb, hrow⟩ := hT.get (t := h) (by rw [k.num]; exact hhn)
        rw [eg] at hrow
        have smH : Same H H2' := sm.trans s2
        have emr : (mRows rows hl)[i]? = some (r.map (numOf hl)) := by
          unfold mRows
          rw [List.getElem?_map, hh]
          show some ((rows.getD h []).map (numOf hl)) = _
          rw [eg]
        refine ⟨rfl, lcyes ?_⟩
        refine ⟨.ref tb, rfl, .int (h : Int), rfl, tb, _, (h : Int), .ref b, rfl, rfl, .inl (.inl (smH _ _ hT.1)), atI_nat hb, b, rfl, ⟨_, .inl (.inl (smH _ _ hrow))⟩, fun D2 n2 => ?_⟩
        have dd : D ≠ D2 := ne_of_none eD n2
        refine lc_it (walk_list (K := K) (a := b) (xs := vi r)) (fun j H' => Same H2' H' ∧ H' D2 = some (.lst (vi ((r.map (numOf hl)).take j)))) ⟨same_new n2, upd_same⟩ (fun j H' _ hW => .inl (.inl (hW.1 _ _ (smH _ _ hrow)))) (fun j x H3 H3' hj hW hY => ?_) (fun H3 hW => ?_)
        · obtain ⟨s3, e3⟩ := hW
          obtain ⟨rfl, hx3⟩ := hY
          obtain ⟨t, ht, rfl⟩ := int_at hx3
          rw [List.length_map] at hj
          have htn : t < hl.length := by
            have := lt t (List.mem_of_getElem? ht)
            omega
          have hlt : hl[t]? = some hl[t] := List.getElem?_eq_getElem htn
          have hvt : (vi hl)[t]? = some (.int (hl[t] : Nat)) := by
            rw [List.getElem?_map, hlt]
            rfl
          refine ⟨rfl, lcyes ?_⟩
          have gn := s3 _ _ (s2 _ _ h1)
          refine ⟨.ref nm, rfl, .ref ho, rfl, .int (t : Int), rfl, ho, _, (t : Int), .int (hl[t] : Nat), rfl, rfl, .inl (.inl (s3 _ _ (smH _ _ hho))), atI_nat hvt, nm, .int (numOf hl t : Nat), rfl, ?_, _, e3, ?_, ?_, ?_⟩
          · have := DGet.k (k := Sum.inl (hl[t] : Int)) gn
            rw [num_find hlt] at this
            exact this
          · rw [List.length_map, List.length_take, List.length_map]
            have := k.l5
            exact sl _ (by omega)
          · intro b' o eb
            rw [upd_ne (ne_of_none eb n2)]
            exact s3 _ _ eb
          · rw [upd_same, vi_snoc]
            have e4 : (r.map (numOf hl))[j]? = some (numOf hl t) := by
              rw [List.getElem?_map, ht]
              rfl
            rw [take_snoc e4]
        · obtain ⟨s3, e3⟩ := hW
          have et : (r.map (numOf hl)).take (vi r).length = r.map (numOf hl) := List.take_of_length_le (by rw [List.length_map, List.length_map]; exact Nat.le_refl _)
          rw [et] at e3
          refine ⟨D2, _, rfl, .inl ⟨.inl (.inl e3), fun p np => ?_⟩⟩
          have eD3 := s3 _ _ eD
          have dp : D ≠ p := ne_of_none eD3 np
          refine ⟨vr as, by rw [upd_ne dp]; exact eD3, ?_, as ++ [p], ?_, ?_, ?_⟩
          · rw [List.length_map, ra.1, List.length_take]
            unfold mRows
            rw [List.length_map]
            exact sl _ (by omega)
          · intro b' o eb
            rw [upd_ne (ne_of_none eb nD), upd_ne (ne_of_none (s3 _ _ (s2 _ _ eb)) np)]
            exact s3 _ _ (s2 _ _ eb)
          · rw [upd_same, vr_snoc]
          · rw [take_snoc emr]
            have ra3 := (ra.mono (Tups.same s3)).mono (Tups.new (o := .tup (vi (r.map (numOf hl)))) np)
            exact (ra3.snoc upd_same).mono (Tups.lst (xs := vr as) (by rw [upd_ne dp]; exact eD3))
      · obtain ⟨as, s2, eD, ra⟩ := hW
        have lmr : (mRows rows hl).length = (headsOf hl hl.length).length := by
          unfold mRows
          rw [List.length_map]
        have et : (mRows rows hl).take (vi (headsOf hl hl.length)).length = mRows rows hl := List.take_of_length_le (by rw [List.length_map, lmr]; exact Nat.le_refl _)
        rw [et] at ra
        have smH : Same H H2 := sm.trans s2
        have hd2 := s2 _ _ h2
        -- ends
        refine ⟨.ref hd, rfl, hd, _, rfl, .inl (.inl hd2), fun D3 n3 => ?_⟩
        refine lc_it (walk_enum (K := K) (a := hd) (xs := vi (headsOf hl hl.length))) (fun i H' => Same H2 H' ∧ H' D3 = some (.lst (vi ((List.range i).filter fun k => decide (bs[(headsOf hl hl.length).getD k 0]? = some true))))) ⟨same_new n3, upd_same⟩ (fun i H' _ hW => .inl (.inl (hW.1 _ _ hd2))) (fun i x H3 H3' hi hW hY => ?_) (fun H3 hW => ?_)
        · obtain ⟨s3, e3⟩ := hW
          obtain ⟨T1, v1, v2, rfl, nT1, rfl, e1, e2⟩ := hY
          cases e1
          obtain ⟨h, hh, rfl⟩ := int_at e2
          rw [List.length_map] at hi
          have hhn : h < bs.length := by
            have := (heads_mem.mp (List.mem_of_getElem? hh)).1
            omega
          have hgd : (headsOf hl hl.length).getD i 0 = h := by
            rw [List.getD_eq_getElem?_getD, hh]
            rfl
          refine ⟨T1, [.int (i : Int), .int (h : Int)], rfl, .inl (.inl upd_same), rfl, .int (i : Int), [.int (h : Int)], rfl, .int (h : Int), [], rfl, rfl, rfl, ?_⟩
          have s4 : Same H2 (upd H3 T1 (.tup [.int (i : Int), .int (h : Int)])) := s3.trans (same_new nT1)
          have e4 := same_new (o := .tup [.int (i : Int), .int (h : Int)]) nT1 _ _ e3
          generalize upd H3 T1 (.tup [.int (i : Int), .int (h : Int)]) = H4 at s4 e4
          have hb : bs[h]? = some bs[h] := List.getElem?_eq_getElem hhn
          generalize bs[h] = b at hb
          have hvb : (bs.map V.bl)[h]? = some (.bl b) := by
            rw [List.getElem?_map, hb]
            rfl
          refine ⟨.ref e, rfl, .int (h : Int), rfl, e, _, (h : Int), .bl b, rfl, rfl, .inl (.inl (s4 _ _ (smH _ _ he))), atI_nat hvb, b, rfl, ?_⟩
          cases b with
          | true =>
            refine iteT ?_
            refine ⟨.int (i : Int), rfl, _, e4, ?_, ?_, ?_⟩
            · rw [List.length_map]
              refine Nat.lt_of_le_of_lt (List.length_filter_le _ _) ?_
              rw [List.length_range]
              exact sl _ (by omega)
            · intro b' o eb
              rw [upd_ne (ne_of_none eb n3)]
              exact s4 _ _ eb
            · rw [upd_same, vi_snoc, List.range_succ, List.filter_append]
              have : ([i].filter fun k => decide (bs[(headsOf hl hl.length).getD k 0]? = some true)) = [i] := by
                rw [List.filter_cons, hgd, hb]
                rfl
              rw [this]
          | false =>
            refine iteF ?_
            refine ⟨s4, ?_⟩
            rw [List.range_succ, List.filter_append]
            have : ([i].filter fun k => decide (bs[(headsOf hl hl.length).getD k 0]? = some true)) = [] := by
              rw [List.filter_cons, hgd, hb]
              rfl
            rw [this, List.append_nil]
            exact e4
        · obtain ⟨s3, e3⟩ := hW
          rw [List.length_map] at e3
          -- return
          refine ⟨.str z, rfl, .ref D, rfl, D, _, rfl, .inl ⟨.inl (.inl (s3 _ _ eD)), fun p4 n4 => ?_⟩⟩
          have e3' := same_new (o := .tup (vr as)) n4 _ _ e3
          refine ⟨.ref D3, rfl, D3, _, rfl, .inl ⟨.inl (.inl e3'), fun p5 n5 => ?_⟩⟩
          refine ⟨by show 3 ≤ sizeLine; decide, fun p6 n6 => ?_⟩
          refine q _ p6 (((smH.trans s3).trans (same_new n4)).trans ((same_new n5).trans (same_new n6))) ⟨p4, p5, as, upd_same, ?_, (ra.mono (Tups.same s3)).mono (((Tups.new n4).trans (Tups.new n5)).trans (Tups.new n6)), ?_⟩
          · exact ((Tups.new n5).trans (Tups.new n6)) _ _ upd_same
          · exact (Tups.new n6) _ _ upd_same
end
end LH

namespace LH
open PySem PySem.Spec PyProof.Rows L2 NdefX LamX
/-! ### walked: the states in the order of their first words -/
def AtT (tbl : List (List Nat)) (r c v : Nat) : Prop := ∃ row, tbl[r]? = some row ∧ row[c]? = some v
structure WI (n0 L : Nat) (R : Nat → List Nat) (s0 : Nat) (ks : List Nat) (tbl : List (List Nat)) : Prop where
  one : ks[0]? = some s0
  nd : ks.Nodup
  lt : ∀ s ∈ ks, s < n0
  le : tbl.length ≤ ks.length
  row : ∀ (j s : Nat) (r : List Nat), ks[j]? = some s → tbl[j]? = some r → r.length ≤ L ∧ ∀ c v : Nat, r[c]? = some v → ∃ t : Nat, (R s)[c]? = some t ∧ ks[v]? = some t
  bfs : ∀ k, 1 ≤ k → k < ks.length → ∃ r c, r < k ∧ AtT tbl r c k ∧ ∀ r' c' v, (r' < r ∨ (r' = r ∧ c' < c)) → AtT tbl r' c' v → v < k
theorem at_snoc {tbl : List (List Nat)} {cur : List Nat} {r c v : Nat} : AtT (tbl ++ [cur]) r c v ↔ AtT tbl r c v ∨ (r = tbl.length ∧ cur[c]? = some v) := by
  unfold AtT
  by_cases h : r < tbl.length
  · rw [List.getElem?_append_left h]
    exact ⟨fun z => .inl z, fun z => z.elim id fun y => absurd h (by omega)⟩
  · by_cases h2 : r = tbl.length
    · subst h2
      rw [List.getElem?_append_right (Nat.le_refl _), Nat.sub_self]
      constructor
      · rintro ⟨row, e, q⟩
        cases e
        exact .inr ⟨rfl, q⟩
      · rintro (⟨row, e, q⟩ | ⟨_, q⟩)
        · rw [List.getElem?_eq_none (Nat.le_refl _)] at e
          cases e
        · exact ⟨cur, rfl, q⟩
    · rw [List.getElem?_eq_none (by rw [List.length_append]; show tbl.length + 1 ≤ r; omega), List.getElem?_eq_none (by omega)]
      constructor
      · rintro ⟨row, e, _⟩
        cases e
      · rintro (⟨row, e, _⟩ | ⟨e, _⟩)
        · cases e
        · exact absurd e h2
theorem WI.start {n0 L : Nat} {R : Nat → List Nat} {s0 : Nat} (h : s0 < n0) : WI n0 L R s0 [s0] [] := ⟨rfl, by simp, fun s hs => by rw [List.mem_singleton.mp hs]; exact h, by simp, fun j s r _ e => by simp at e, fun k h1 h2 => by
  have : k < 1 := h2
  omega⟩
theorem WI.open_ {n0 L : Nat} {R : Nat → List Nat} {s0 : Nat} {ks : List Nat} {tbl : List (List Nat)} (h : WI n0 L R s0 ks tbl) (l : tbl.length < ks.length) : WI n0 L R s0 ks (tbl ++ [[]]) := by
  have key : ∀ r c v, AtT (tbl ++ [[]]) r c v ↔ AtT tbl r c v := fun r c v => by
    rw [at_snoc]
    exact ⟨fun z => z.elim id fun y => by have := y.2; simp at this, .inl⟩
  refine ⟨h.one, h.nd, h.lt, by rw [List.length_append]; exact l, fun j s r hs hr => ?_, fun k h1 h2 => ?_⟩
  · by_cases hj : j < tbl.length
    · rw [List.getElem?_append_left hj] at hr
      exact h.row j s r hs hr
    · rw [List.getElem?_append_right (by omega)] at hr
      have : j - tbl.length = 0 := by
        cases z : j - tbl.length with
        | zero => rfl
        | succ m =>
          rw [z] at hr
          simp at hr
      rw [this] at hr
      cases hr
      exact ⟨Nat.zero_le _, fun c v e => by simp at e⟩
  · obtain ⟨r, c, a, b, d⟩ := h.bfs k h1 h2
    exact ⟨r, c, a, (key r c k).mpr b, fun r' c' v lt e => d r' c' v lt ((key r' c' v).mp e)⟩
/-- one more number in the last row; ks' is ks, or ks and the state that is new -/
theorem WI.put {n0 L : Nat} {R : Nat → List Nat} {s0 : Nat} {ks ks' : List Nat} {tbl : List (List Nat)} {cur : List Nat} {s t v : Nat} (h : WI n0 L R s0 ks (tbl ++ [cur])) (hs : ks[tbl.length]? = some s) (ht : (R s)[cur.length]? = some t) (htn : t < n0) (hL : (R s).length ≤ L) (hv : ks'[v]? = some t)
    (hk : ks' = ks ∨ (ks' = ks ++ [t] ∧ t ∉ ks)) : WI n0 L R s0 ks' (tbl ++ [cur ++ [v]]) := by
  have ext : ∀ j x, ks[j]? = some x → ks'[j]? = some x := fun j x e => by
    rcases hk with rfl | ⟨rfl, _⟩
    · exact e
    · rw [List.getElem?_append_left (List.getElem?_eq_some_iff.mp e).1]
      exact e
  have back_ : ∀ j x, j ≤ tbl.length → ks'[j]? = some x → ks[j]? = some x := fun j x hj e => by
    have hl := (List.getElem?_eq_some_iff.mp hs).1
    rcases hk with rfl | ⟨rfl, _⟩
    · exact e
    · rw [List.getElem?_append_left (by omega)] at e
      exact e
  have key : ∀ r c x, AtT (tbl ++ [cur ++ [v]]) r c x ↔ AtT (tbl ++ [cur]) r c x ∨ (r = tbl.length ∧ c = cur.length ∧ x = v) := fun r c x => by
    rw [at_snoc, at_snoc]
    constructor
    · rintro (z | ⟨e, q⟩)
      · exact .inl (.inl z)
      · by_cases hc : c < cur.length
        · rw [List.getElem?_append_left hc] at q
          exact .inl (.inr ⟨e, q⟩)
        · rw [List.getElem?_append_right (by omega)] at q
          cases z : c - cur.length with
          | zero =>
            rw [z] at q
            cases q
            exact .inr ⟨e, by omega, rfl⟩
          | succ m =>
            rw [z] at q
            simp at q
    · rintro ((z | ⟨e, q⟩) | ⟨e1, e2, e3⟩)
      · exact .inl z
      · exact .inr ⟨e, by rw [List.getElem?_append_left (List.getElem?_eq_some_iff.mp q).1]; exact q⟩
      · subst e1 e2 e3
        refine .inr ⟨rfl, ?_⟩
        rw [List.getElem?_append_right (Nat.le_refl _), Nat.sub_self]
        rfl
  have bound : ∀ r c x, AtT (tbl ++ [cur]) r c x → x < ks.length := fun r c x ⟨row, e, q⟩ => by
    have hr := (List.getElem?_eq_some_iff.mp e).1
    have hle := h.le
    have : r < ks.length := by omega
    obtain ⟨_, z⟩ := h.row r _ row (List.getElem?_eq_getElem this) e
    obtain ⟨t', _, y⟩ := z c x q
    exact (List.getElem?_eq_some_iff.mp y).1
  have lk : ks.length ≤ ks'.length := by
    rcases hk with rfl | ⟨rfl, _⟩
    · exact Nat.le_refl _
    · rw [List.length_append]
      omega
  refine ⟨ext 0 _ h.one, ?_, ?_, ?_, fun j s1 r hs1 hr => ?_, fun k h1 h2 => ?_⟩
  · rcases hk with rfl | ⟨rfl, nin⟩
    · exact h.nd
    · refine List.nodup_append.mpr ⟨h.nd, by simp, fun x hx y hy e => ?_⟩
      rw [List.mem_singleton.mp hy] at e
      exact nin (e ▸ hx)
  · rcases hk with rfl | ⟨rfl, _⟩
    · exact h.lt
    · exact mem_snoc h.lt htn
  · have := h.le
    rw [List.length_append] at this ⊢
    exact Nat.le_trans this lk
  · by_cases hj : j < tbl.length
    · rw [List.getElem?_append_left hj] at hr
      obtain ⟨a, b⟩ := h.row j s1 r (back_ j s1 (by omega) hs1) (by rw [List.getElem?_append_left hj]; exact hr)
      refine ⟨a, fun c x e => ?_⟩
      obtain ⟨t', y1, y2⟩ := b c x e
      exact ⟨t', y1, ext _ _ y2⟩
    · rw [List.getElem?_append_right (by omega)] at hr
      have ej : j - tbl.length = 0 := by
        cases z : j - tbl.length with
        | zero => rfl
        | succ m =>
          rw [z] at hr
          simp at hr
      rw [ej] at hr
      cases hr
      have ej2 : j = tbl.length := by omega
      subst ej2
      have hs2 := back_ _ s1 (Nat.le_refl _) hs1
      rw [hs] at hs2
      cases hs2
      obtain ⟨a, b⟩ := h.row tbl.length s cur hs (by rw [List.getElem?_append_right (Nat.le_refl _), Nat.sub_self]; rfl)
      have hcl := (List.getElem?_eq_some_iff.mp ht).1
      refine ⟨by rw [List.length_append]; show cur.length + 1 ≤ L; omega, fun c x e => ?_⟩
      by_cases hc : c < cur.length
      · rw [List.getElem?_append_left hc] at e
        obtain ⟨t', y1, y2⟩ := b c x e
        exact ⟨t', y1, ext _ _ y2⟩
      · rw [List.getElem?_append_right (by omega)] at e
        have ec : c - cur.length = 0 := by
          cases z : c - cur.length with
          | zero => rfl
          | succ m =>
            rw [z] at e
            simp at e
        rw [ec] at e
        cases e
        have : c = cur.length := by omega
        subst this
        exact ⟨t, ht, hv⟩
  · by_cases hkl : k < ks.length
    · obtain ⟨r, c, a, b, d⟩ := h.bfs k h1 hkl
      refine ⟨r, c, a, (key r c k).mpr (.inl b), fun r' c' x lt e => ?_⟩
      rcases (key r' c' x).mp e with z | ⟨e1, e2, _⟩
      · exact d r' c' x lt z
      · -- the new place is behind all others
        obtain ⟨row, y1, y2⟩ := b
        have hr := (List.getElem?_eq_some_iff.mp y1).1
        rw [List.length_append] at hr
        have hr : r < tbl.length + 1 := hr
        rcases lt with lt | ⟨l1, l2⟩
        · omega
        · have : r = tbl.length := by omega
          subst this
          rw [List.getElem?_append_right (Nat.le_refl _), Nat.sub_self] at y1
          cases y1
          have := (List.getElem?_eq_some_iff.mp y2).1
          omega
    · rcases hk with rfl | ⟨rfl, nin⟩
      · omega
      · have ek : k = ks.length := by
          rw [List.length_append] at h2
          have : k < ks.length + 1 := h2
          omega
        have ev : v = ks.length := by
          have hvl := (List.getElem?_eq_some_iff.mp hv).1
          rw [List.length_append] at hvl
          have hvl : v < ks.length + 1 := hvl
          by_cases z : v < ks.length
          · rw [List.getElem?_append_left z] at hv
            exact absurd (List.mem_of_getElem? hv) nin
          · omega
        subst ek
        refine ⟨tbl.length, cur.length, (List.getElem?_eq_some_iff.mp hs).1, (key _ _ _).mpr (.inr ⟨rfl, rfl, ev.symm⟩), fun r' c' x lt e => ?_⟩
        rcases (key r' c' x).mp e with z | ⟨e1, e2, _⟩
        · exact bound r' c' x z
        · omega
abbrev mk (ks : List Nat) : List (Key × V) := ks.zipIdx.map fun (p : Nat × Nat) => ((Sum.inl (p.1 : Int) : Key), V.int (p.2 : Int))
theorem mk_snoc (ks : List Nat) (t : Nat) : mk (ks ++ [t]) = mk ks ++ [((Sum.inl (t : Int) : Key), V.int (ks.length : Int))] := by
  show List.map _ (ks ++ [t]).zipIdx = _
  rw [List.zipIdx_append, List.map_append]
  simp
theorem valV_mkk (x : Nat) : ∀ (ks : List Nat) (k : Nat), valV ((ks.zipIdx k).map fun (p : Nat × Nat) => ((Sum.inl (p.1 : Int) : Key), V.int (p.2 : Int))) (Sum.inl (x : Int) : Key) = if x ∈ ks then some (.int ((k + ks.idxOf x : Nat) : Int)) else none
  | [], _ => rfl
  | h :: r, k => by
    rw [List.zipIdx_cons, List.map_cons, List.idxOf_cons]
    by_cases q : h = x
    · subst q
      rw [valV_pos rfl, if_pos (List.mem_cons_self ..)]
      simp
    · have ne : ¬ (((h, k) : Nat × Nat) |> fun p => ((Sum.inl (p.1 : Int) : Key), V.int (p.2 : Int))).1 = (Sum.inl (x : Int) : Key) := fun z => q (by
        have z1 : ((h : Nat) : Int) = (x : Int) := Sum.inl.inj z
        exact Int.ofNat.inj z1)
      rw [valV_neg ne, valV_mkk x r (k + 1), show (h == x) = false from beq_eq_false_iff_ne.mpr q]
      have : (x ∈ h :: r) ↔ x ∈ r := ⟨fun z => (List.mem_cons.mp z).elim (fun y => absurd y.symm q) id, List.mem_cons_of_mem _⟩
      by_cases e : x ∈ r
      · rw [if_pos e, if_pos (this.mpr e)]
        show some (V.int ((k + 1 + r.idxOf x : Nat) : Int)) = some (V.int ((k + (r.idxOf x + 1) : Nat) : Int))
        congr 2
        omega
      · rw [if_neg e, if_neg (fun z => e (this.mp z))]
theorem valV_mk (x : Nat) (ks : List Nat) : valV (mk ks) (Sum.inl (x : Int) : Key) = if x ∈ ks then some (.int ((ks.idxOf x : Nat) : Int)) else none := by
  have := valV_mkk x ks 0
  rw [Nat.zero_add] at this
  exact this
theorem mk_len (ks : List Nat) : (mk ks).length = ks.length := by
  show (List.map _ _).length = _
  rw [List.length_map, List.length_zipIdx]
theorem WI.many {n0 L : Nat} {R : Nat → List Nat} {s0 : Nat} {ks : List Nat} {tbl : List (List Nat)} (h : WI n0 L R s0 ks tbl) : ks.length ≤ n0 := by
  have := len_le_of_sub (ys := List.range n0) h.nd fun x hx => List.mem_range.mpr (h.lt x hx)
  rw [List.length_range] at this
  exact this
end LH

namespace LH
open PySem PySem.Spec PyProof.Rows L2 NdefX LamX
section
variable {P : Program} {w : World} {K : PySem.W.Frag} {mg : Str → Option Value} {base : Heap}
def sp_walked (P : Program) (w : World) (K : PySem.W.Frag) (mg : Str → Option Value) (base : Heap) : Sp := fun vs H Q _ => ∃ (f : Addr) (F : NF) (spf : Sp) (s0 n0 L : Nat) (R : Nat → List Nat), vs = [.int (s0 : Int), .ref f] ∧ H f = some (FnO f F) ∧ Callable P w K mg base 4 f spf ∧ s0 < n0 ∧ n0 ≤ 1000000 ∧ L ≤ 5 ∧ (∀ s, s < n0 → (R s).length = L ∧ ∀ t ∈ R s, t < n0) ∧
  (∀ (s : Nat) (H' : Hp) (Q' : VK), s < n0 → Same H H' → (∀ H'' p, Same H' H'' → H'' p = some (.tup (vi (R s))) → Q' (.ref p) H'') → spf [.int (s : Int)] H' Q' E0) ∧
  ∀ H' p ka tb ras ks tbl, Same H H' → H' p = some (.tup [.ref ka, .ref tb]) → H' ka = some (.lst (vi ks)) → LolAt H' tb ras tbl → WI n0 L R s0 ks tbl → tbl.length = ks.length → (∀ r ∈ tbl, r.length = L) → Q (.ref p) H'
theorem lol_snoc {H : Hp} {tb ra : Addr} {ras : List Addr} {tbl : List (List Nat)} {row : List Nat} (h : LolAt H tb ras tbl) (hr : H ra = some (.lst (vi row))) (nt : ∀ a ∈ ras, a ≠ tb) (nr : ra ≠ tb) : LolAt (upd H tb (.lst (vr (ras ++ [ra])))) tb (ras ++ [ra]) (tbl ++ [row]) := by
  refine ⟨upd_same, by rw [List.length_append, List.length_append, h.2.1]; rfl, fun i b w x y => ?_⟩
  by_cases hi : i < ras.length
  · rw [List.getElem?_append_left hi] at x
    rw [List.getElem?_append_left (by rw [← h.2.1]; exact hi)] at y
    rw [upd_ne (nt b (List.mem_of_getElem? x))]
    exact h.2.2 i b w x y
  · rw [List.getElem?_append_right (by omega)] at x
    rw [List.getElem?_append_right (by rw [← h.2.1]; omega), ← h.2.1] at y
    have e : i - ras.length = 0 := by
      cases q : i - ras.length with
      | zero => rfl
      | succ k =>
        rw [q] at x
        simp at x
    rw [e] at x y
    cases x
    cases y
    rw [upd_ne nr]
    exact hr
theorem ok_walked (T : TX K mg) : FnOk P w K mg base CX0 5 T.a_walked T.fd_walked ["start", "follow"] (sp_walked P w K mg base) := by
  refine T.F_walked.ok sc_walked (fun vs H Q E h => ?_) (fun cdv A outer s H vs Q E hr h => ?_)
  · obtain ⟨f, F, spf, s0, n0, L, R, rfl, _⟩ := h
    rfl
  · obtain ⟨f, F, spf, s0, n0, L, R, rfl, hf, ca, h0, hbig, hL, hR, hsp, q⟩ := h
    refine ⟨_, (pss_cons (ps_set (i := 2) sc_walked.nd rfl (Or.inl rfl) (pe_disp (pps_cons (pv 0) pe_int pps_nil) (by rfl) (by rfl) (fun z => by cases z) (by decide)))
      (pss_cons (ps_set (i := 3) sc_walked.nd rfl (Or.inl rfl) (pe_lst (pa_cons (pv 0) pa_nil)))
      (pss_cons (ps_set (i := 4) sc_walked.nd rfl (Or.inl rfl) (pe_lst pa_nil))
      (pss_cons (ps_while PassesOwn.never (pt_cmpR op_lt (pe_callB (call_lenK K rfl) (by rfl) T.m_len (by decide +kernel) (pa_cons (pv 4) pa_nil)) (pe_callB (call_lenK K rfl) (by rfl) T.m_len (by decide +kernel) (pa_cons (pv 3) pa_nil)) (nomark _))
        (pss_cons (ps_set (i := 5) sc_walked.nd rfl (Or.inl rfl) (pe_lst pa_nil))
          (pss_cons (ps_set (i := 6) sc_walked.nd rfl (Or.inl rfl) (pe_callV (k := 4) (i := 1) P w K mg base rfl rfl rfl rfl rfl (hr.mono (by decide)) rfl (by first | exact Or.inl rfl | exact Or.inr (Or.inl rfl) | exact Or.inr (Or.inr rfl)) (pa_cons (pe_ix (ix_listK K rfl) (pv 3) (pe_callB (call_lenK K rfl) (by rfl) T.m_len (by decide +kernel) (pa_cons (pv 4) pa_nil)) (fun _ _ => rfl)) pa_nil)))
          (pss_cons (ps_for PassesOwn.never rfl (pi_tupK K rfl (pv 6)) (pg_name (i := 7) sc_walked.nd rfl (Or.inl rfl))
            (C8.pss_cut (ps_if (pt_cmp (pc_dnotin (hu_of hr) (pv 7) (pv 2)))
                (pss_cons (ps_dput (hu_of hr) (pv 2) (pv 7) (pe_callB (call_lenK K rfl) (by rfl) T.m_len (by decide +kernel) (pa_cons (pv 3) pa_nil)) rfl)
                  (pss_one (ps_expr (pe_bmK K rfl PySem.F.plainAttrs_list PySem.F.slot_list_append PySem.F.type_list_append mt_append (pv 3) (pa_cons (pv 7) pa_nil)))))
                pss_nil)
              (pss_one (ps_expr (pe_bmK K rfl PySem.F.plainAttrs_list PySem.F.slot_list_append PySem.F.type_list_append mt_append (pv 5) (pa_cons (pe_dget (hu_of hr) (pv 2) (pv 7) (fun _ _ => rfl)) pa_nil))))))
          (pss_one (ps_expr (pe_bmK K rfl PySem.F.plainAttrs_list PySem.F.slot_list_append PySem.F.type_list_append mt_append (pv 4) (pa_cons (pv 5) pa_nil))))))))
      (pss_one (ps_ret (pe_tup (pa_cons (pv 3) (pa_cons (pv 4) pa_nil))))))))), ?_⟩
    have sl : ∀ m, m ≤ 1000000 → m < sizeLine := fun m hm => Nat.lt_of_le_of_lt hm (by decide)
    -- numbers, keys, table
    refine fun nm nnm => ⟨.int (s0 : Int), rfl, upd_same, [(Sum.inl (s0 : Int), V.int 0)], rfl, (by show 1 ≤ 15; decide), ?_⟩
    rw [upd_upd]
    refine ⟨.int (s0 : Int), rfl, by show 1 ≤ sizeLine; decide, fun ka nka => ⟨by show 0 ≤ sizeLine; decide, fun ta nta => ?_⟩⟩
    have em : mergeK [] [((Sum.inl (s0 : Int) : Key), V.int 0)] = mk [s0] := rfl
    rw [em] at nka nta ⊢
    have d1 : nm ≠ ka := ne_of_none upd_same nka
    have e1 : (upd (upd H nm (.dK (mk [s0]))) ka (.lst [.int (s0 : Int)])) nm = some (.dK (mk [s0])) := same_new nka _ _ upd_same
    have d2 : nm ≠ ta := ne_of_none e1 nta
    have d3 : ka ≠ ta := ne_of_none upd_same nta
    have fka : H ka = none := (same_new nnm).free nka
    have sm0 : Same H (upd (upd H nm (.dK (mk [s0]))) ka (.lst [.int (s0 : Int)])) := (same_new nnm).trans (same_new nka)
    have fta : H ta = none := sm0.free nta
    -- while
    refine ⟨fun m σ H' => ∃ (ks : List Nat) (tbl : List (List Nat)) (ras : List Addr) (y5 y6 y7 : Option V), m + tbl.length = n0 + 1 ∧ σ = [some (.int (s0 : Int)), some (.ref f), some (.ref nm), some (.ref ka), some (.ref ta), y5, y6, y7] ∧ Same H H' ∧ H' nm = some (.dK (mk ks)) ∧ H' ka = some (.lst (vi ks)) ∧ LolAt H' ta ras tbl ∧ WI n0 L R s0 ks tbl ∧ (∀ r ∈ tbl, r.length = L) ∧ (∀ a ∈ ras, H a = none ∧ a ≠ ta ∧ a ≠ ka),
      ⟨n0 + 1, [s0], [], [], none, none, none, rfl, rfl, sm0.trans (same_new nta), same_new nta _ _ e1, same_new nta _ _ upd_same, ⟨upd_same, rfl, fun i b w x => by simp at x⟩, WI.start h0, (fun _ h => nomatch h), fun _ h => nomatch h⟩, fun m σ H1 hW => ?_⟩
    obtain ⟨ks, tbl, ras, y5, y6, y7, hm, rfl, sm1, en, ek1, ht1, wi, full, fr⟩ := hW
    have hmany := wi.many
    have hrl : ras.length = tbl.length := ht1.2.1
    refine ⟨.ref ta, rfl, ta, _, rfl, .inl (.inl (.inl ht1.1)), .ref ka, rfl, ka, _, rfl, .inl (.inl (.inl ek1)), _, _, rfl, rfl, _, rfl, ite2 (fun z => ?_) (fun z => ?_)⟩
    · have hlt : tbl.length < ks.length := by
        have := of_decide_eq_true z
        rw [List.length_map, List.length_map, hrl] at this
        omega
      refine ⟨fun σ' H' => ∃ (ks : List Nat) (row : List Nat) (ras' : List Addr) (y5 y6 y7 : Option V), σ' = [some (.int (s0 : Int)), some (.ref f), some (.ref nm), some (.ref ka), some (.ref ta), y5, y6, y7] ∧ Same H H' ∧ H' nm = some (.dK (mk ks)) ∧ H' ka = some (.lst (vi ks)) ∧ LolAt H' ta ras' (tbl ++ [row]) ∧ WI n0 L R s0 ks (tbl ++ [row]) ∧ row.length = L ∧ (∀ a ∈ ras', H a = none ∧ a ≠ ta ∧ a ≠ ka), fun σ' H' hN => ?_, ?_⟩
      · obtain ⟨ks', row, ras', y5, y6, y7, r1, r2, r3, r4, r5, r6, r7, r8⟩ := hN
        have := r6.le
        have hm' := r6.many
        rw [List.length_append] at this
        have this : tbl.length + 1 ≤ ks'.length := this
        refine ⟨m - 1, by omega, ks', tbl ++ [row], ras', y5, y6, y7, ?_, r1, r2, r3, r4, r5, r6, mem_snoc full r7, r8⟩
        rw [List.length_append]
        show m - 1 + (tbl.length + 1) = n0 + 1
        omega
      -- row = []
      refine ⟨by show 0 ≤ sizeLine; decide, fun ra nra => ?_⟩
      have sm2 : Same H (upd H1 ra (.lst [])) := sm1.trans (same_new nra)
      have s2 : Same H1 (upd H1 ra (.lst [])) := same_new nra
      have era : (upd H1 ra (.lst [])) ra = some (.lst (vi [])) := upd_same
      have fra : H ra = none := sm1.free nra
      have ra1 : nm ≠ ra := ne_of_none en nra
      have ra2 : ka ≠ ra := ne_of_none ek1 nra
      have ra3 : ta ≠ ra := ne_of_none ht1.1 nra
      have ra4 : ∀ a ∈ ras, a ≠ ra := fun a ha e => by
        obtain ⟨i, hi⟩ := List.mem_iff_getElem?.mp ha
        have hil : i < tbl.length := by
          rw [← hrl]
          exact (List.getElem?_eq_some_iff.mp hi).1
        have := ht1.2.2 i a _ hi (List.getElem?_eq_getElem hil)
        exact ne_of_none this nra e
      have en2 := s2 _ _ en
      have ek2 := s2 _ _ ek1
      have ht2 := ht1.same s2
      generalize upd H1 ra (.lst []) = H2 at sm2 s2 era en2 ek2 ht2
      have hks : ks[tbl.length]? = some ks[tbl.length] := List.getElem?_eq_getElem hlt
      generalize ks[tbl.length] = sx at hks
      have hsx : sx < n0 := wi.lt sx (List.mem_of_getElem? hks)
      obtain ⟨hRl, hRt⟩ := hR sx hsx
      have hvk : (vi ks)[ras.length]? = some (.int (sx : Int)) := by
        rw [List.getElem?_map, hrl, hks]
        rfl
      -- behind = follow(keys[len(table)])
      refine ⟨f, F, spf, rfl, sm2 _ _ hf, ca, .ref ka, rfl, .ref ta, rfl, ta, _, rfl, .inl (.inl (.inl ht2.1)), ka, _, _, .int (sx : Int), rfl, rfl, .inl (.inl ek2), ?_, sm2 _ _ hf, hsp sx H2 _ hsx sm2 fun H3 pb s3 eb => ?_⟩
      · rw [List.length_map]
        exact atI_nat hvk
      have wi0 := wi.open_ hlt
      -- for key in behind
      refine ⟨.ref pb, rfl, pb, rfl, ⟨_, .inl (.inl eb)⟩, ?_⟩
      refine for_it (walk_tup (K := K) (a := pb) (xs := vi (R sx))) (fun c σ H' => (∃ ks cur, Same H H' ∧ H' nm = some (.dK (mk ks)) ∧ H' ka = some (.lst (vi ks)) ∧ LolAt H' ta ras tbl ∧ H' ra = some (.lst (vi cur)) ∧ H' pb = some (.tup (vi (R sx))) ∧ cur.length = c ∧ ks[tbl.length]? = some sx ∧ WI n0 L R s0 ks (tbl ++ [cur])) ∧ ∃ y7, σ = [some (.int (s0 : Int)), some (.ref f), some (.ref nm), some (.ref ka), some (.ref ta), some (.ref ra), some (.ref pb), y7]) ⟨⟨ks, [], sm2.trans s3, s3 _ _ en2, s3 _ _ ek2, ht2.same s3, s3 _ _ era, eb, rfl, hks, wi0⟩, y7, rfl⟩ (fun c σ H' _ hW => ?_) (fun c x σ H4 H4' hc hW hY => ?_) (fun σ H4 hW => ?_)
      · obtain ⟨⟨_, _, _, _, _, _, _, z, _⟩, _⟩ := hW
        exact .inl (.inl z)
      · obtain ⟨⟨ks, cur, sm4, en4, ek4, ht4, er4, eb4, lc, hk4, wi4⟩, y7, rfl⟩ := hW
        obtain ⟨rfl, hx⟩ := hY
        obtain ⟨t, ht, rfl⟩ := int_at hx
        have htn := hRt t (List.mem_of_getElem? ht)
        have hm4 := wi4.many
        have nlol : ∀ {H5 : Hp}, (∀ b, b ≠ nm → b ≠ ka → b ≠ ra → H5 b = H4' b) → LolAt H5 ta ras tbl := fun {H5} hh => by
          refine ⟨by rw [hh ta (Ne.symm d2) (Ne.symm d3) ra3]; exact ht4.1, ht4.2.1, fun i b w' x' y' => ?_⟩
          have z := ht4.2.2 i b w' x' y'
          rw [hh b (ne_of z en4 (by intro q; cases q)) (fr b (List.mem_of_getElem? x')).2.2 (ra4 b (List.mem_of_getElem? x'))]
          exact z
        refine ⟨fun σ' H' => ∃ ks', (ks' = ks ∨ (ks' = ks ++ [t] ∧ t ∉ ks)) ∧ t ∈ ks' ∧ ks'.Nodup ∧ σ' = [some (.int (s0 : Int)), some (.ref f), some (.ref nm), some (.ref ka), some (.ref ta), some (.ref ra), some (.ref pb), some (.int (t : Int))] ∧ Same H H' ∧ H' nm = some (.dK (mk ks')) ∧ H' ka = some (.lst (vi ks')) ∧ (∀ b, b ≠ nm → b ≠ ka → H' b = H4' b), ?_, fun σ' H' hM => ?_⟩
        · refine ⟨.int (t : Int), rfl, .ref nm, rfl, nm, _, rfl, DGet.k (k := Sum.inl (t : Int)) en4, _, rfl, ?_⟩
          rw [valV_mk]
          by_cases hin : t ∈ ks
          · rw [if_pos hin]
            refine iteF ?_
            exact ⟨ks, .inl rfl, hin, wi4.nd, rfl, sm4, en4, ek4, fun _ _ _ => rfl⟩
          · rw [if_neg hin]
            refine iteT ?_
            have ep : putK (mk ks) (Sum.inl (t : Int) : Key) (V.int ((vi ks).length : Int)) = mk (ks ++ [t]) := by
              unfold putK
              rw [valV_any, valV_mk, if_neg hin, if_neg (by decide), mk_snoc, List.length_map]
            refine ⟨.ref ka, rfl, ka, _, rfl, .inl (.inl (.inl ek4)), .ref nm, rfl, .int (t : Int), rfl, nm, _, rfl, DPut.k (k := Sum.inl (t : Int)) en4 (by rw [mk_len]; exact sl _ (by omega)), ?_⟩
            rw [ep]
            have ek5 : (upd H4' nm (.dK (mk (ks ++ [t])))) ka = some (.lst (vi ks)) := by
              rw [upd_ne (Ne.symm d1)]
              exact ek4
            refine ⟨.ref ka, rfl, .inl ⟨rfl, _, .inl (.inl ek5)⟩, .int (t : Int), rfl, ka, _, _, rfl, rfl, ek5, by rw [List.length_map]; exact sl _ (by omega), ks ++ [t], .inr ⟨rfl, hin⟩, List.mem_append_right _ (List.mem_singleton.mpr rfl), ?_, rfl, ?_, ?_, ?_, ?_⟩
            · refine List.nodup_append.mpr ⟨wi4.nd, by simp, fun x hx y hy e => ?_⟩
              rw [List.mem_singleton.mp hy] at e
              exact hin (e ▸ hx)
            · intro b o e
              rw [upd_ne (ne_of_none e fka), upd_ne (ne_of_none e nnm)]
              exact sm4 _ _ e
            · rw [upd_ne d1, upd_same]
            · rw [upd_same, vi_snoc]
            · intro b h1 h2
              rw [upd_ne h2, upd_ne h1]
        · obtain ⟨ks', hk', htin, nd', rfl, sm5, en5, ek5, rest⟩ := hM
          have er5 : H' ra = some (.lst (vi cur)) := by
            rw [rest ra (Ne.symm ra1) (Ne.symm ra2)]
            exact er4
          have hvt : ks'[ks'.idxOf t]? = some t := by
            have := List.idxOf_lt_length_iff.mpr htin
            rw [List.getElem?_eq_getElem this, List.getElem_idxOf]
          have hk5 : ks'[tbl.length]? = some sx := by
            rcases hk' with rfl | ⟨rfl, _⟩
            · exact hk4
            · rw [List.getElem?_append_left (List.getElem?_eq_some_iff.mp hk4).1]
              exact hk4
          -- row.append(numbers[key])
          refine ⟨.ref ra, rfl, .inl ⟨rfl, _, .inl (.inl er5)⟩, .ref nm, rfl, .int (t : Int), rfl, nm, .int (ks'.idxOf t : Nat), rfl, ?_, ra, _, _, rfl, rfl, er5, by rw [List.length_map]; exact sl _ (by rw [List.length_map] at hc; omega), ⟨ks', cur ++ [ks'.idxOf t], ?_, ?_, ?_, ?_, ?_, ?_, ?_, hk5, ?_⟩, _, rfl⟩
          · have := DGet.k (k := Sum.inl (t : Int)) en5
            rw [valV_mk, if_pos htin] at this
            exact this
          · intro b o e
            rw [upd_ne (ne_of_none e fra)]
            exact sm5 _ _ e
          · rw [upd_ne ra1]
            exact en5
          · rw [upd_ne ra2]
            exact ek5
          · exact nlol fun b h1 h2 h3 => by
              rw [upd_ne h3]
              exact rest b h1 h2
          · rw [upd_same, vi_snoc]
          · have pbr : pb ≠ ra := ne_of eb4 er4 (by intro z; cases z)
            rw [upd_ne pbr, rest pb (ne_of eb4 en4 (by intro z; cases z)) (ne_of eb4 ek4 (by intro z; cases z))]
            exact eb4
          · rw [List.length_append, lc]
            rfl
          · exact wi4.put hk4 (by rw [lc]; exact ht) htn (by omega) hvt hk'
      · obtain ⟨⟨ks, cur, sm4, en4, ek4, ht4, er4, eb4, lc, hk4, wi4⟩, y7, rfl⟩ := hW
        rw [List.length_map, hRl] at lc
        have nt : ∀ a ∈ ras, a ≠ ta := fun a ha => (fr a ha).2.1
        -- table.append(row)
        refine ⟨.ref ta, rfl, .inl ⟨rfl, _, .inl (.inl ht4.1)⟩, .ref ra, rfl, ta, _, _, rfl, rfl, ht4.1, by rw [List.length_map, hrl]; exact sl _ (by omega), ks, cur, ras ++ [ra], _, _, _, rfl, ?_, ?_, ?_, ?_, wi4, lc, ?_⟩
        · intro b o e
          rw [upd_ne (ne_of_none e fta)]
          exact sm4 _ _ e
        · rw [upd_ne d2]
          exact en4
        · rw [upd_ne d3]
          exact ek4
        · rw [vr_snoc]
          exact lol_snoc ht4 er4 nt (Ne.symm ra3)
        · exact mem_snoc fr ⟨fra, Ne.symm ra3, Ne.symm ra2⟩
    · have hle := wi.le
      have hlen : tbl.length = ks.length := by
        have : ¬ (((vr ras).length : Nat) : Int) < ((vi ks).length : Nat) := fun y => z (decide_eq_true y)
        rw [List.length_map, List.length_map, hrl] at this
        omega
      refine ⟨.ref ka, rfl, .ref ta, rfl, by show 2 ≤ sizeLine; decide, fun p np => ?_⟩
      exact q _ p ka ta ras ks tbl (sm1.trans (same_new np)) upd_same (same_new np _ _ ek1) (ht1.same (same_new np)) wi hlen full
end
end LH

namespace LH
open PySem PySem.Spec PyProof.Rows L2 NdefX LamX
structure BuiltOk (n0 L : Nat) (R : Nat → List Nat) (s0 : Nat) (fin : Nat → Bool) (M : Mach) (ks : List Nat) (tbl : List (List Nat)) (hl : List Nat) : Prop where
  wi : WI n0 L R s0 ks tbl
  len : tbl.length = ks.length
  full : ∀ r ∈ tbl, r.length = L
  hlen : hl.length = ks.length
  like : ∀ s t, s < ks.length → t < ks.length → (hl[s]? = hl[t]? ↔ Eqv tbl (ks.map fin) L s t)
  rows : M.rows = mRows tbl hl
  ends : M.ends = mEnds (ks.map fin) hl
theorem BuiltOk.tab {n0 L : Nat} {R : Nat → List Nat} {s0 : Nat} {ks : List Nat} {tbl : List (List Nat)} (wi : WI n0 L R s0 ks tbl) (len : tbl.length = ks.length) (full : ∀ r ∈ tbl, r.length = L) (h1 : 1 ≤ L) (h5 : L ≤ 5) (hb : n0 ≤ 1000000) : TabOk ks.length L tbl := by
  have hm := wi.many
  refine ⟨len, (List.getElem?_eq_some_iff.mp wi.one).1, by omega, h1, h5, fun r hr => ⟨full r hr, fun t ht => ?_⟩⟩
  obtain ⟨j, hj⟩ := List.mem_iff_getElem?.mp hr
  obtain ⟨c, hc⟩ := List.mem_iff_getElem?.mp ht
  have hjl : j < ks.length := by
    rw [← len]
    exact (List.getElem?_eq_some_iff.mp hj).1
  obtain ⟨_, z⟩ := wi.row j _ r (List.getElem?_eq_getElem hjl) hj
  obtain ⟨t', _, y⟩ := z c t hc
  exact (List.getElem?_eq_some_iff.mp y).1
section
variable {P : Program} {w : World} {K : PySem.W.Frag} {mg : Str → Option Value} {base : Heap}
def sp_built (P : Program) (w : World) (K : PySem.W.Frag) (mg : Str → Option Value) (base : Heap) : Sp := fun vs H Q _ => ∃ (z : Str) (f g : Addr) (F G : NF) (spf spg : Sp) (s0 n0 L : Nat) (R : Nat → List Nat) (fin : Nat → Bool), vs = [.str z, .int (s0 : Int), .ref f, .ref g] ∧ H f = some (FnO f F) ∧ Callable P w K mg base 4 f spf ∧ H g = some (FnO g G) ∧ Callable P w K mg base 4 g spg ∧
  s0 < n0 ∧ n0 ≤ 1000000 ∧ 1 ≤ L ∧ L ≤ 5 ∧ (∀ s, s < n0 → (R s).length = L ∧ ∀ t ∈ R s, t < n0) ∧
  (∀ (s : Nat) (H' : Hp) (Q' : VK), s < n0 → Same H H' → (∀ H'' p, Same H' H'' → H'' p = some (.tup (vi (R s))) → Q' (.ref p) H'') → spf [.int (s : Int)] H' Q' E0) ∧
  (∀ (s : Nat) (H' : Hp) (Q' : VK), s < n0 → Same H H' → (∀ H'', Same H' H'' → Q' (.bl (fin s)) H'') → spg [.int (s : Int)] H' Q' E0) ∧
  ∀ H' p (M : Mach) ks tbl hl, Same H H' → MachAt H' p M → M.z = z → BuiltOk n0 L R s0 fin M ks tbl hl → Q (.ref p) H'
theorem ok_built (T : TX K mg) : FnOk P w K mg base CX0 6 T.a_built T.fd_built ["letters", "start", "follow", "is_end"] (sp_built P w K mg base) := by
  have G_walked : FnOk P w K mg base CX0 5 T.a_walked T.fd_walked ["start", "follow"] (sp_walked P w K mg base) := ok_walked T
  have G_parted : FnOk P w K mg base CX0 2 T.a_parted T.fd_parted ["table", "ended"] sp_parted := ok_parted T
  have G_merged : FnOk P w K mg base CX0 1 T.a_merged T.fd_merged ["letters", "table", "ended", "homes"] sp_merged := ok_merged T
  refine T.F_built.ok sc_built (fun vs H Q E h => ?_) (fun cdv A outer s H vs Q E hr h => ?_)
  · obtain ⟨z, f, g, F, G, spf, spg, s0, n0, L, R, fin, rfl, _⟩ := h
    rfl
  · obtain ⟨z, f, g, F, G, spf, spg, s0, n0, L, R, fin, rfl, hf, caf, hg, cag, h0, hbig, hL1, hL5, hR, hspf, hspg, q⟩ := h
    refine ⟨_, (pss_cons (ps_asg (pe_call G_walked (hr.mono (by decide)) (by rfl) T.g_walked T.F_walked.kp T.b_walked .nil pass0 (pa_cons (pv 1) (pa_cons (pv 2) pa_nil))) (pg_tupK (n := 2) K rfl (by rfl) (pgs_cons (pg_name (i := 4) sc_built.nd rfl (Or.inl rfl)) (pgs_cons (pg_name (i := 5) sc_built.nd rfl (Or.inl rfl)) pgs_nil))))
      (pss_cons (ps_setLc (i := 6) (own := [("key", 7)]) (g := gName 7) (tt := tYes) (by rfl) sc_built.nd rfl rfl (sw_true rfl rfl rfl (by decide +kernel)) (pi_listK K rfl (pv 4)) (blkOk_by (own := [("key", 7)]) (N := N_built) (by kernel_rfl)) (fun _ _ _ _ _ => (pg_name (i := 7) sc_built.nd rfl (by first | exact Or.inl rfl | exact Or.inr rfl))) (fun _ _ _ _ _ => pts_nil) (fun _ _ _ _ _ => (pe_callV (k := 4) (i := 3) P w K mg base rfl rfl rfl rfl rfl (hr.mono (by decide)) rfl (by first | exact Or.inl rfl | exact Or.inr (Or.inl rfl) | exact Or.inr (Or.inr rfl)) (pa_cons (pv 7) pa_nil))))
      (pss_one (ps_ret (pe_call G_merged (hr.mono (by decide)) (by rfl) T.g_merged T.F_merged.kp T.b_merged .nil pass0 (pa_cons (pv 0) (pa_cons (pv 5) (pa_cons (pv 6) (pa_cons (pe_call G_parted (hr.mono (by decide)) (by rfl) T.g_parted T.F_parted.kp T.b_parted .nil pass0 (pa_cons (pv 5) (pa_cons (pv 6) pa_nil))) pa_nil))))))))), ?_⟩
    -- keys, table = walked(start, follow)
    refine ⟨.int (s0 : Int), rfl, .ref f, rfl, f, F, spf, s0, n0, L, R, rfl, hf, caf, h0, hbig, hL5, hR, hspf, fun H1 p ka tb ras ks tbl sm1 ep ek et wi len full => ?_⟩
    refine ⟨p, [.ref ka, .ref tb], rfl, .inl (.inl ep), rfl, .ref ka, [.ref tb], rfl, .ref tb, [], rfl, rfl, ?_⟩
    have tk := BuiltOk.tab wi len full hL1 hL5 hbig
    have hm := wi.many
    -- ended
    refine ⟨.ref ka, rfl, ka, rfl, ⟨_, .inl (.inl ek)⟩, fun D nD => ?_⟩
    have fD : H D = none := sm1.free nD
    refine lc_it (walk_list (K := K) (a := ka) (xs := vi ks)) (fun i H' => Same H1 H' ∧ H' D = some (.lst (((ks.take i).map fin).map V.bl))) ⟨same_new nD, upd_same⟩ (fun i H' _ hW => .inl (.inl (hW.1 _ _ ek))) (fun i x H2 H2' hi hW hY => ?_) (fun H2 hW => ?_)
    · obtain ⟨s2, e2⟩ := hW
      obtain ⟨rfl, hx⟩ := hY
      obtain ⟨t, ht, rfl⟩ := int_at hx
      rw [List.length_map] at hi
      refine ⟨rfl, lcyes ?_⟩
      refine ⟨g, G, spg, rfl, s2 _ _ (sm1 _ _ hg), cag, .int (t : Int), rfl, s2 _ _ (sm1 _ _ hg), hspg t H2' _ (wi.lt t (List.mem_of_getElem? ht)) (sm1.trans s2) fun H3 s3 => ?_⟩
      refine ⟨_, s3 _ _ e2, ?_, fun b o eb => ?_, ?_⟩
      · rw [List.length_map, List.length_map, List.length_take]
        exact Nat.lt_of_le_of_lt (show _ ≤ 1000000 by omega) (by decide)
      · rw [upd_ne (ne_of_none eb nD)]
        exact s3 _ _ (s2 _ _ eb)
      · rw [upd_same, take_snoc ht, List.map_append, List.map_append]
        rfl
    · obtain ⟨s2, e2⟩ := hW
      have etk : ks.take (vi ks).length = ks := List.take_of_length_le (by rw [List.length_map]; exact Nat.le_refl _)
      rw [etk] at e2
      have lbs : (ks.map fin).length = ks.length := List.length_map ..
      -- merged(letters, table, ended, parted(table, ended))
      refine ⟨.str z, rfl, .ref tb, rfl, .ref D, rfl, .ref tb, rfl, .ref D, rfl, tb, D, ras, tbl, ks.map fin, ks.length, L, rfl, et.same s2, tk, e2, lbs, fun H3 ho hl s3 fho eho lhl like => ?_⟩
      refine ⟨z, tb, D, ho, ras, tbl, ks.map fin, hl, ks.length, L, rfl, (et.same s2).same s3, tk, s3 _ _ e2, lbs, eho, lhl, fun H4 p4 s4 mm => ?_⟩
      exact q H4 p4 _ ks tbl hl (((sm1.trans s2).trans s3).trans s4) mm rfl ⟨wi, len, full, lhl, like, rfl, rfl⟩
end
end LH

namespace LH
open PySem PySem.Spec PyProof.Rows L2
/-! ### least machines: one for each set of words -/
structure Canon (L : Nat) (rows : List (List Nat)) (ends : List Nat) : Prop where
  one : 1 ≤ rows.length
  row : ∀ r ∈ rows, r.length = L ∧ ∀ t ∈ r, t < rows.length
  endl : ∀ e ∈ ends, e < rows.length
  rise : ends.Pairwise (· < ·)
  bfs : ∀ k, 1 ≤ k → k < rows.length → ∃ r c, r < k ∧ AtT rows r c k ∧ ∀ r' c' v, (r' < r ∨ (r' = r ∧ c' < c)) → AtT rows r' c' v → v < k
  min : ∀ s t, s < rows.length → t < rows.length → (∀ w : List Nat, (∀ c ∈ w, c < L) → (runs rows s w ∈ ends ↔ runs rows t w ∈ ends)) → s = t
theorem at_dl {L : Nat} {rows : List (List Nat)} {r c v : Nat} (h : AtT rows r c v) : dl rows r c = v := by
  obtain ⟨row, e, q⟩ := h
  have e1 : rows.getD r [] = row := by
    rw [List.getD_eq_getElem?_getD, e]
    rfl
  unfold dl
  rw [e1, List.getD_eq_getElem?_getD, q]
  rfl
theorem Canon.at_ {L : Nat} {rows : List (List Nat)} {ends : List Nat} (h : Canon L rows ends) {s c : Nat} (hs : s < rows.length) (hc : c < L) : AtT rows s c (dl rows s c) ∧ dl rows s c < rows.length := by
  have e : rows[s]? = some rows[s] := List.getElem?_eq_getElem hs
  obtain ⟨l, t⟩ := h.row _ (List.getElem_mem hs)
  have hcl : c < rows[s].length := by omega
  have q : rows[s][c]? = some rows[s][c] := List.getElem?_eq_getElem hcl
  have a : AtT rows s c rows[s][c] := ⟨_, e, q⟩
  rw [at_dl (L := L) a]
  exact ⟨a, t _ (List.getElem_mem hcl)⟩
theorem Canon.col {L : Nat} {rows : List (List Nat)} {ends : List Nat} (h : Canon L rows ends) {r c v : Nat} (a : AtT rows r c v) : r < rows.length ∧ c < L := by
  obtain ⟨row, e, q⟩ := a
  have := (h.row row (List.mem_of_getElem? e)).1
  exact ⟨(List.getElem?_eq_some_iff.mp e).1, by rw [← this]; exact (List.getElem?_eq_some_iff.mp q).1⟩
/-- states of two machines with the same words ahead -/
def Like (L : Nat) (rows : List (List Nat)) (ends : List Nat) (rows' : List (List Nat)) (ends' : List Nat) (s s' : Nat) : Prop := ∀ w : List Nat, (∀ c ∈ w, c < L) → (runs rows s w ∈ ends ↔ runs rows' s' w ∈ ends')
theorem Like.step {L : Nat} {rows rows' : List (List Nat)} {ends ends' : List Nat} {s s' c : Nat} (h : Like L rows ends rows' ends' s s') (hc : c < L) : Like L rows ends rows' ends' (dl rows s c) (dl rows' s' c) := fun w hw => h (c :: w) fun d hd => by
  rcases List.mem_cons.mp hd with rfl | hd
  · exact hc
  · exact hw d hd
theorem canon_half {L : Nat} {rows rows' : List (List Nat)} {ends ends' : List Nat} (h : Canon L rows ends) (h' : Canon L rows' ends') (e : Like L rows ends rows' ends' 0 0) : ∀ k, k < rows.length → k < rows'.length ∧ Like L rows ends rows' ends' k k := by
  intro k
  induction k using Nat.strongRecOn with
  | ind k ih =>
    intro hk
    by_cases h0 : k = 0
    · subst h0
      exact ⟨h'.one, e⟩
    · obtain ⟨r, c, hr, ha, hb⟩ := h.bfs k (by omega) hk
      obtain ⟨hrl, hcL⟩ := h.col ha
      obtain ⟨hr', lr⟩ := ih r hr hrl
      have lk := lr.step hcL
      rw [at_dl (L := L) ha] at lk
      obtain ⟨a', b'⟩ := h'.at_ hr' hcL
      have big : ¬ dl rows' r c < k := fun z => by
        obtain ⟨_, lj⟩ := ih _ z (by omega)
        have := h.min k (dl rows' r c) hk (by omega) fun w hw => (lk w hw).trans (lj w hw).symm
        omega
      have eq : dl rows' r c = k := by
        by_cases z : dl rows' r c = k
        · exact z
        · exfalso
          have hk' : k < rows'.length := by omega
          obtain ⟨r2, c2, hr2, ha2, hb2⟩ := h'.bfs k (by omega) hk'
          obtain ⟨hr2l, hc2L⟩ := h'.col ha2
          by_cases o1 : r < r2 ∨ (r = r2 ∧ c < c2)
          · have := hb2 r c _ o1 a'
            omega
          · by_cases o2 : r = r2 ∧ c = c2
            · obtain ⟨rfl, rfl⟩ := o2
              exact z (at_dl (L := L) ha2)
            · have o3 : r2 < r ∨ (r2 = r ∧ c2 < c) := by omega
              have hr2n : r2 < rows.length := by omega
              obtain ⟨a3, b3⟩ := h.at_ hr2n hc2L
              have lt := hb r2 c2 _ o3 a3
              obtain ⟨_, l2⟩ := ih r2 hr2 hr2n
              have l3 := l2.step hc2L
              rw [at_dl (L := L) ha2] at l3
              obtain ⟨hv', lv⟩ := ih _ lt b3
              have := h'.min (dl rows r2 c2) k hv' hk' fun w hw => (lv w hw).symm.trans (l3 w hw)
              omega
      rw [eq] at lk b'
      exact ⟨b', lk⟩
theorem Like.symm {L : Nat} {rows rows' : List (List Nat)} {ends ends' : List Nat} {s s' : Nat} (h : Like L rows ends rows' ends' s s') : Like L rows' ends' rows ends s' s := fun w hw => (h w hw).symm
theorem rise_ext {xs ys : List Nat} (hx : xs.Pairwise (· < ·)) (hy : ys.Pairwise (· < ·)) (e : ∀ a, a ∈ xs ↔ a ∈ ys) : xs = ys := by
  have p : xs.Perm ys := by
    refine (List.perm_ext_iff_of_nodup (hx.imp fun h => Nat.ne_of_lt h) (hy.imp fun h => Nat.ne_of_lt h)).mpr e
  exact p.eq_of_pairwise (fun a b _ _ h1 h2 => absurd h1 (by omega)) hx hy
theorem canon_uniq {L : Nat} {rows rows' : List (List Nat)} {ends ends' : List Nat} (h : Canon L rows ends) (h' : Canon L rows' ends') (e : ∀ w : List Nat, (∀ c ∈ w, c < L) → (runs rows 0 w ∈ ends ↔ runs rows' 0 w ∈ ends')) : rows = rows' ∧ ends = ends' := by
  have a := canon_half h h' e
  have b := canon_half h' h (Like.symm e)
  have len : rows.length = rows'.length := by
    have a1 := (a (rows.length - 1) (by have := h.one; omega)).1
    have b1 := (b (rows'.length - 1) (by have := h'.one; omega)).1
    omega
  refine ⟨List.ext_getElem? fun i => ?_, rise_ext h.rise h'.rise fun x => ?_⟩
  · by_cases hi : i < rows.length
    · have hi' : i < rows'.length := by omega
      rw [List.getElem?_eq_getElem hi, List.getElem?_eq_getElem hi']
      congr 1
      obtain ⟨l1, _⟩ := h.row _ (List.getElem_mem hi)
      obtain ⟨l2, _⟩ := h'.row _ (List.getElem_mem hi')
      refine List.ext_getElem? fun c => ?_
      by_cases hc : c < L
      · obtain ⟨x1, y1⟩ := h.at_ hi hc
        obtain ⟨x2, y2⟩ := h'.at_ hi' hc
        have lv := (a i hi).2.step hc
        obtain ⟨z1, z2⟩ := a _ y1
        have := h'.min (dl rows i c) (dl rows' i c) z1 y2 fun w hw => (z2 w hw).symm.trans (lv w hw)
        obtain ⟨r1, e1, q1⟩ := x1
        obtain ⟨r2, e2, q2⟩ := x2
        rw [List.getElem?_eq_getElem hi] at e1
        rw [List.getElem?_eq_getElem hi'] at e2
        cases e1
        cases e2
        rw [q1, q2, this]
      · rw [List.getElem?_eq_none (by omega), List.getElem?_eq_none (by omega)]
    · rw [List.getElem?_eq_none (by omega), List.getElem?_eq_none (by omega)]
  · constructor
    · intro hx
      exact ((a x (h.endl x hx)).2 [] (fun _ h => nomatch h)).mp hx
    · intro hx
      exact ((b x (h'.endl x hx)).2 [] (fun _ h => nomatch h)).mp hx
end LH

namespace LH
open PySem PySem.Spec PyProof.Rows L2
/-! ### what built tells is least, with just the words that are read from start on -/
section
variable {n0 L s0 : Nat} {R : Nat → List Nat} {fin : Nat → Bool} {M : Mach} {ks : List Nat} {tbl : List (List Nat)} {hl : List Nat}
theorem TabOk.atT {n : Nat} {rows : List (List Nat)} (k : TabOk n L rows) {s c : Nat} (hs : s < n) (hc : c < L) : AtT rows s c (dl rows s c) := by
  obtain ⟨r, e, g, l, _⟩ := k.at_ hs
  have hcl : c < r.length := by omega
  refine ⟨r, e, ?_⟩
  unfold dl
  rw [g, List.getD_eq_getElem?_getD, List.getElem?_eq_getElem hcl]
  rfl
theorem runs_lt {n : Nat} {rows : List (List Nat)} (k : TabOk n L rows) : ∀ (w : List Nat) (s : Nat), s < n → (∀ c ∈ w, c < L) → runs rows s w < n
  | [], _, h, _ => h
  | c :: w, s, h, hw => runs_lt k w _ (k.dl_lt h (hw c (List.mem_cons_self ..))) fun d hd => hw d (List.mem_cons_of_mem _ hd)
theorem mr_len : (mRows tbl hl).length = (headsOf hl hl.length).length := by
  unfold mRows
  rw [List.length_map]
theorem num_lt {s : Nat} (hs : s < hl.length) : numOf hl s < (mRows tbl hl).length := by
  obtain ⟨h, e, _⟩ := num_spec hs
  rw [mr_len]
  exact (List.getElem?_eq_some_iff.mp e).1
theorem num_zero (h0 : 0 < hl.length) : numOf hl 0 = 0 := by
  obtain ⟨h, e, le, _⟩ := num_spec h0
  have : h = 0 := by omega
  subst this
  have hm := List.mem_of_getElem? e
  -- 0 is the least head
  have r := heads_rise hl hl.length
  by_cases z : numOf hl 0 = 0
  · exact z
  · exfalso
    have hl' := (List.getElem?_eq_some_iff.mp e).1
    have h0' : 0 < (headsOf hl hl.length).length := by omega
    have := List.pairwise_iff_getElem.mp r 0 (numOf hl 0) h0' hl' (by omega)
    have e2 := (List.getElem?_eq_some_iff.mp e).2
    omega
theorem dl_num (k : TabOk ks.length L tbl) (hlen : hl.length = ks.length) (like : ∀ s t, s < ks.length → t < ks.length → (hl[s]? = hl[t]? ↔ Eqv tbl (ks.map fin) L s t)) {s c : Nat} (hs : s < ks.length) (hc : c < L) : dl (mRows tbl hl) (numOf hl s) c = numOf hl (dl tbl s c) ∧ AtT (mRows tbl hl) (numOf hl s) c (numOf hl (dl tbl s c)) := by
  obtain ⟨h, e, le, q⟩ := num_spec (hl := hl) (s := s) (by omega)
  have hh : h < ks.length := by omega
  have ev := (like h s hh hs).mp q
  have n1 : numOf hl (dl tbl h c) = numOf hl (dl tbl s c) := by
    have a := k.dl_lt hh hc
    have b := k.dl_lt hs hc
    exact (num_eq (by omega) (by omega)).mpr ((like _ _ a b).mpr (ev.step hc))
  obtain ⟨r, er, q2⟩ := k.atT hh hc
  have at_ : AtT (mRows tbl hl) (numOf hl s) c (numOf hl (dl tbl s c)) := by
    refine ⟨r.map (numOf hl), ?_, by rw [List.getElem?_map, q2, ← n1]; rfl⟩
    unfold mRows
    rw [List.getElem?_map, e]
    show some ((tbl.getD h []).map (numOf hl)) = _
    rw [List.getD_eq_getElem?_getD, er]
    rfl
  exact ⟨at_dl (L := L) at_, at_⟩
theorem runs_num (k : TabOk ks.length L tbl) (hlen : hl.length = ks.length) (like : ∀ s t, s < ks.length → t < ks.length → (hl[s]? = hl[t]? ↔ Eqv tbl (ks.map fin) L s t)) : ∀ (w : List Nat) (s : Nat), s < ks.length → (∀ c ∈ w, c < L) → runs (mRows tbl hl) (numOf hl s) w = numOf hl (runs tbl s w)
  | [], _, _, _ => rfl
  | c :: w, s, hs, hw => by
    have hc := hw c (List.mem_cons_self ..)
    show runs (mRows tbl hl) (dl (mRows tbl hl) (numOf hl s) c) w = numOf hl (runs tbl (dl tbl s c) w)
    rw [(dl_num k hlen like hs hc).1]
    exact runs_num k hlen like w _ (k.dl_lt hs hc) fun d hd => hw d (List.mem_cons_of_mem _ hd)
theorem ends_num (hlen : hl.length = ks.length) (like : ∀ s t, s < ks.length → t < ks.length → (hl[s]? = hl[t]? ↔ Eqv tbl (ks.map fin) L s t)) {s : Nat} (hs : s < ks.length) : numOf hl s ∈ mEnds (ks.map fin) hl ↔ (ks.map fin)[s]? = some true := by
  obtain ⟨h, e, le, q⟩ := num_spec (hl := hl) (s := s) (by omega)
  have ev := (like h s (by omega) hs).mp q
  have e0 : (ks.map fin)[h]? = (ks.map fin)[s]? := ev [] (fun _ h => nomatch h)
  unfold mEnds
  rw [List.mem_filter, List.mem_range, decide_eq_true_iff, List.getD_eq_getElem?_getD, e]
  show _ ∧ (ks.map fin)[h]? = some true ↔ _
  rw [e0]
  exact ⟨fun z => z.2, fun z => ⟨(List.getElem?_eq_some_iff.mp e).1, z⟩⟩
theorem head_back {k : Nat} (hk : k < (mRows tbl hl).length) : ∃ s, (headsOf hl hl.length)[k]? = some s ∧ s < hl.length ∧ numOf hl s = k := by
  rw [mr_len] at hk
  have e : (headsOf hl hl.length)[k]? = some (headsOf hl hl.length)[k] := List.getElem?_eq_getElem hk
  exact ⟨_, e, (heads_mem.mp (List.mem_of_getElem? e)).1, num_of_head e⟩
/-- heads rise with their numbers -/
theorem num_mono {s t : Nat} (hs : isHead hl s = true) (ht : isHead hl t = true) (hsl : s < hl.length) (htl : t < hl.length) : s < t ↔ numOf hl s < numOf hl t := by
  have a : s ∈ headsOf hl hl.length := heads_mem.mpr ⟨hsl, isHead_iff.mp hs⟩
  have b : t ∈ headsOf hl hl.length := heads_mem.mpr ⟨htl, isHead_iff.mp ht⟩
  obtain ⟨i, hi⟩ := List.mem_iff_getElem?.mp a
  obtain ⟨j, hj⟩ := List.mem_iff_getElem?.mp b
  have ei := num_of_head hi
  have ej := num_of_head hj
  rw [ei, ej]
  have r := heads_rise hl hl.length
  obtain ⟨li, gi⟩ := List.getElem?_eq_some_iff.mp hi
  obtain ⟨lj, gj⟩ := List.getElem?_eq_some_iff.mp hj
  constructor
  · intro z
    rcases Nat.lt_trichotomy i j with y | y | y
    · exact y
    · subst y
      rw [gi] at gj
      omega
    · have := List.pairwise_iff_getElem.mp r j i lj li y
      omega
  · intro z
    have := List.pairwise_iff_getElem.mp r i j li lj z
    omega
theorem num_le_of {s t : Nat} (hs : s < hl.length) (ht : t < hl.length) (hh : isHead hl s = true) (h : numOf hl s ≤ numOf hl t) : s ≤ t := by
  obtain ⟨h', e, le, q⟩ := num_spec ht
  have hm := List.mem_of_getElem? e
  have hh' : isHead hl h' = true := isHead_iff.mpr (heads_mem.mp hm).2
  have nh : numOf hl h' = numOf hl t := num_of_head e
  have hl' := (heads_mem.mp hm).1
  by_cases z : s ≤ h'
  · omega
  · have := (num_mono hh' hh hl' hs).mp (by omega)
    omega
theorem BuiltOk.canon (b : BuiltOk n0 L R s0 fin M ks tbl hl) (k : TabOk ks.length L tbl) : Canon L M.rows M.ends := by
  have hlen := b.hlen
  have like := b.like
  rw [b.rows, b.ends]
  have h0 : 0 < hl.length := by
    rw [hlen]
    exact k.one
  have up : ∀ {k' : Nat}, k' < (mRows tbl hl).length → ∃ s, (headsOf hl hl.length)[k']? = some s ∧ s < ks.length ∧ numOf hl s = k' ∧ isHead hl s = true := fun {k'} hk => by
    obtain ⟨s, e, l, q⟩ := head_back hk
    exact ⟨s, e, by omega, q, isHead_iff.mpr (heads_mem.mp (List.mem_of_getElem? e)).2⟩
  refine ⟨by have := num_lt (tbl := tbl) h0; omega, fun r hr => ?_, fun e he => ?_, ?_, fun kk h1 h2 => ?_, fun s t hs ht hw => ?_⟩
  · obtain ⟨i, hi⟩ := List.mem_iff_getElem?.mp hr
    have hil := (List.getElem?_eq_some_iff.mp hi).1
    obtain ⟨s, e, ls, _, _⟩ := up hil
    obtain ⟨row, er, eg, lr, lt⟩ := k.at_ ls
    unfold mRows at hi
    rw [List.getElem?_map, e] at hi
    have hi : some ((tbl.getD s []).map (numOf hl)) = some r := hi
    rw [eg] at hi
    cases hi
    refine ⟨by rw [List.length_map]; exact lr, fun t ht => ?_⟩
    obtain ⟨u, hu, rfl⟩ := List.mem_map.mp ht
    have := lt u hu
    exact num_lt (by omega)
  · unfold mEnds at he
    rw [mr_len]
    exact List.mem_range.mp (List.mem_filter.mp he).1
  · unfold mEnds
    exact List.Pairwise.filter _ List.pairwise_lt_range
  · -- the first place with a number of kk or more is kk's
    obtain ⟨s, es, ls, ns, hs⟩ := up h2
    have hs1 : 1 ≤ s := by
      by_cases z : s = 0
      · subst z
        rw [num_zero h0] at ns
        omega
      · omega
    obtain ⟨r, c, hrs, ha, hb⟩ := b.wi.bfs s hs1 ls
    have hrl : r < ks.length := by omega
    have hcL : c < L := by
      obtain ⟨row, er, q⟩ := ha
      have := b.full row (List.mem_of_getElem? er)
      rw [← this]
      exact (List.getElem?_eq_some_iff.mp q).1
    obtain ⟨r0, er0, ler0, qr0⟩ := num_spec (hl := hl) (s := r) (by omega)
    have hr0m := List.mem_of_getElem? er0
    have hr0h : isHead hl r0 = true := isHead_iff.mpr (heads_mem.mp hr0m).2
    have nr0 : numOf hl r0 = numOf hl r := num_of_head er0
    have ad := (dl_num (fin := fin) k hlen like hrl hcL).2
    rw [at_dl (L := L) ha, ns] at ad
    refine ⟨numOf hl r, c, ?_, ad, fun r' c' v lt a' => ?_⟩
    · rw [← ns, ← nr0]
      exact (num_mono hr0h hs (by omega) (by omega)).mp (by omega)
    · -- an earlier place: its head's row stands earlier in the table
      have hr'l : r' < (mRows tbl hl).length := by
        obtain ⟨row, er, _⟩ := a'
        exact (List.getElem?_eq_some_iff.mp er).1
      obtain ⟨x, ex, lx, nx, hx⟩ := up hr'l
      have hc'L : c' < L := by
        obtain ⟨row, er, q⟩ := a'
        unfold mRows at er
        rw [List.getElem?_map, ex] at er
        have er : some ((tbl.getD x []).map (numOf hl)) = some row := er
        obtain ⟨rx, erx, egx, lrx, _⟩ := k.at_ lx
        rw [egx] at er
        cases er
        have := (List.getElem?_eq_some_iff.mp q).1
        rw [List.length_map] at this
        omega
      have dx := (dl_num (fin := fin) k hlen like lx hc'L).1
      rw [nx, at_dl (L := L) a'] at dx
      have ax := k.atT lx hc'L
      have xr : x < r ∨ (x = r ∧ c' < c) ∨ (x = r0 ∧ r0 < r ∧ c' < c) := by
        rcases lt with lt | ⟨l1, l2⟩
        · left
          have : x < r0 := (num_mono hx hr0h (by omega) (by omega)).mpr (by rw [nx, nr0]; exact lt)
          omega
        · have : x = r0 := head_uniq (List.mem_of_getElem? ex) hr0m (by
            have e1 : numOf hl x = numOf hl r0 := by rw [nx, l1, nr0]
            exact (num_eq (by omega) (by omega)).mp e1)
          subst this
          by_cases z : x = r
          · exact .inr (.inl ⟨z, l2⟩)
          · exact .inl (by omega)
      have small : dl tbl x c' < s := by
        rcases xr with y | y | y
        · exact hb x c' _ (.inl y) ax
        · exact hb x c' _ (.inr y) ax
        · exact hb x c' _ (.inl (by omega)) ax
      rw [dx, ← ns]
      have hdl := k.dl_lt lx hc'L
      by_cases z : numOf hl (dl tbl x c') < numOf hl s
      · exact z
      · have := num_le_of (hl := hl) (s := s) (t := dl tbl x c') (by omega) (by omega) hs (by omega)
        omega
  · obtain ⟨x, _, lx, nx, _⟩ := up hs
    obtain ⟨y, _, ly, ny, _⟩ := up ht
    rw [← nx, ← ny]
    refine (num_eq (by omega) (by omega)).mpr ((like x y lx ly).mpr fun w hw' => ?_)
    have := hw w hw'
    rw [← nx, ← ny, runs_num (fin := fin) k hlen like w x lx hw', runs_num (fin := fin) k hlen like w y ly hw', ends_num hlen like (runs_lt k w x lx hw'), ends_num hlen like (runs_lt k w y ly hw')] at this
    have l1 := runs_lt k w x lx hw'
    have l2 := runs_lt k w y ly hw'
    rw [List.getElem?_map, List.getElem?_map, List.getElem?_eq_getElem l1, List.getElem?_eq_getElem l2] at this ⊢
    simp only [Option.map_some, Option.some.injEq] at this ⊢
    exact Bool.eq_iff_iff.mpr this
/-- the words: read from s0 on -/
def runR (R : Nat → List Nat) (s : Nat) (w : List Nat) : Nat := w.foldl (fun s c => (R s).getD c 0) s
theorem ks_runs (b : BuiltOk n0 L R s0 fin M ks tbl hl) (k : TabOk ks.length L tbl) : ∀ (w : List Nat) (j s : Nat), ks[j]? = some s → (∀ c ∈ w, c < L) → ks[runs tbl j w]? = some (runR R s w)
  | [], _, _, h, _ => h
  | c :: w, j, s, h, hw => by
    have hc := hw c (List.mem_cons_self ..)
    have hj := (List.getElem?_eq_some_iff.mp h).1
    obtain ⟨row, er, q⟩ := k.atT hj hc
    obtain ⟨_, z⟩ := b.wi.row j s row h er
    obtain ⟨t, y1, y2⟩ := z c _ q
    have e1 : (R s).getD c 0 = t := by
      rw [List.getD_eq_getElem?_getD, y1]
      rfl
    show ks[runs tbl (dl tbl j c) w]? = some (runR R ((R s).getD c 0) w)
    rw [e1]
    exact ks_runs b k w _ t y2 fun d hd => hw d (List.mem_cons_of_mem _ hd)
theorem BuiltOk.words (b : BuiltOk n0 L R s0 fin M ks tbl hl) (k : TabOk ks.length L tbl) (w : List Nat) (hw : ∀ c ∈ w, c < L) : runs M.rows 0 w ∈ M.ends ↔ fin (runR R s0 w) = true := by
  have h0 : 0 < hl.length := by
    rw [b.hlen]
    exact k.one
  rw [b.rows, b.ends]
  have e : runs (mRows tbl hl) 0 w = numOf hl (runs tbl 0 w) := by
    have := runs_num (fin := fin) k b.hlen b.like w 0 k.one hw
    rw [num_zero h0] at this
    exact this
  rw [e, ends_num b.hlen b.like (runs_lt k w 0 k.one hw), List.getElem?_map, ks_runs b k w 0 s0 b.wi.one hw]
  simp
end
end LH

namespace LH
open PySem PySem.Spec PyProof.Rows L2 NdefX LamX LU
/-! ### a walk over keys that are any data -/
theorem nvsS {H : Hp} : ∀ {ks : List NestedKey} {vs : List V} {k : NestedKey} {v : V}, NVs H ks vs → NV H k v → NVs H (ks ++ [k]) (vs ++ [v])
  | _, _, _, _, .nil, n => .cons n .nil
  | _, _, _, _, .cons a t, n => .cons a (nvsS t n)
theorem nvsL {H : Hp} : ∀ {ks : List NestedKey} {vs : List V}, NVs H ks vs → vs.length = ks.length
  | _, _, .nil => rfl
  | _, _, .cons _ t => congrArg (· + 1) (nvsL t)
theorem nvsA {H : Hp} : ∀ {ks : List NestedKey} {vs : List V}, NVs H ks vs → ∀ {i : Nat} {k : NestedKey}, ks[i]? = some k → ∃ v, vs[i]? = some v ∧ NV H k v
  | _, _, .nil, i, k, e => by simp at e
  | _, _, .cons h t, 0, k, e => by
    cases e
    exact ⟨_, rfl, h⟩
  | _, _, .cons h t, i + 1, k, e => by
    obtain ⟨v, h1, h2⟩ := nvsA t (i := i) (k := k) (by simpa using e)
    exact ⟨v, by simpa using h1, h2⟩
abbrev nU (U : Nat → NestedKey) (ks : List Nat) : List (NestedKey × V) := ks.zipIdx.map fun (p : Nat × Nat) => (U p.1, V.int (p.2 : Int))
theorem nU_snoc (U : Nat → NestedKey) (ks : List Nat) (t : Nat) : nU U (ks ++ [t]) = nU U ks ++ [(U t, V.int (ks.length : Int))] := by
  show List.map _ (ks ++ [t]).zipIdx = _
  rw [List.zipIdx_append, List.map_append]
  simp
theorem valV_nUU (U : Nat → NestedKey) (x : Nat) : ∀ (ks : List Nat) (k : Nat), (∀ y ∈ ks, U y = U x → y = x) → valV ((ks.zipIdx k).map fun (p : Nat × Nat) => (U p.1, V.int (p.2 : Int))) (U x) = if x ∈ ks then some (.int ((k + ks.idxOf x : Nat) : Int)) else none
  | [], _, _ => rfl
  | h :: r, k, inj => by
    rw [List.zipIdx_cons, List.map_cons, List.idxOf_cons]
    by_cases q : h = x
    · subst q
      rw [valV_pos rfl, if_pos (List.mem_cons_self ..)]
      simp
    · have ne : ¬ (((h, k) : Nat × Nat) |> fun p => (U p.1, V.int (p.2 : Int))).1 = U x := fun z => q (inj h (List.mem_cons_self ..) z)
      rw [valV_neg ne, valV_nUU U x r (k + 1) fun y hy => inj y (List.mem_cons_of_mem _ hy), show (h == x) = false from beq_eq_false_iff_ne.mpr q]
      have : (x ∈ h :: r) ↔ x ∈ r := ⟨fun z => (List.mem_cons.mp z).elim (fun y => absurd y.symm q) id, List.mem_cons_of_mem _⟩
      by_cases e : x ∈ r
      · rw [if_pos e, if_pos (this.mpr e)]
        show some (V.int ((k + 1 + r.idxOf x : Nat) : Int)) = some (V.int ((k + (r.idxOf x + 1) : Nat) : Int))
        congr 2
        omega
      · rw [if_neg e, if_neg (fun z => e (this.mp z))]
theorem valV_nU (U : Nat → NestedKey) (x : Nat) (ks : List Nat) (inj : ∀ y ∈ ks, U y = U x → y = x) : valV (nU U ks) (U x) = if x ∈ ks then some (.int ((ks.idxOf x : Nat) : Int)) else none := by
  have := valV_nUU U x ks 0 inj
  rw [Nat.zero_add] at this
  exact this
theorem nU_len (U : Nat → NestedKey) (ks : List Nat) : (nU U ks).length = ks.length := by
  show (List.map _ _).length = _
  rw [List.length_map, List.length_zipIdx]
theorem same_freeU {H H' : Hp} {p : Addr} (h : H p = none) (e : ∀ b, b ≠ p → H' b = H b) : Same H H' := fun b o q => by
  rw [e b (ne_of_none q h)]
  exact q
section
variable {P : Program} {w : World} {K : PySem.W.Frag} {mg : Str → Option Value} {base : Heap}
def sp_walkedU (P : Program) (w : World) (K : PySem.W.Frag) (mg : Str → Option Value) (base : Heap) : Sp := fun vs H Q _ => ∃ (v0 : V) (f : Addr) (F : NF) (spf : Sp) (U : Nat → NestedKey) (s0 n0 L : Nat) (R : Nat → List Nat), vs = [v0, .ref f] ∧ NV H (U s0) v0 ∧ H f = some (FnO f F) ∧ Callable P w K mg base 4 f spf ∧ s0 < n0 ∧ n0 ≤ 1000000 ∧ L ≤ 5 ∧ (∀ s, s < n0 → (U s).depth ≤ 8) ∧ (∀ s t, s < n0 → t < n0 → U s = U t → s = t) ∧ (∀ s, s < n0 → (R s).length = L ∧ ∀ t ∈ R s, t < n0) ∧
  (∀ (s : Nat) (v : V) (H' : Hp) (Q' : VK), s < n0 → Same H H' → NV H' (U s) v → (∀ H'' b us, Same H' H'' → H' b = none → H'' b = some (.lst us) → NVs H'' ((R s).map U) us → Q' (.ref b) H'') → spf [v] H' Q' E0) ∧
  ∀ H' p ka tb kvs ras ks tbl, Same H H' → H' p = some (.tup [.ref ka, .ref tb]) → H' ka = some (.lst kvs) → NVs H' (ks.map U) kvs → LolAt H' tb ras tbl → WI n0 L R s0 ks tbl → tbl.length = ks.length → (∀ r ∈ tbl, r.length = L) → Q (.ref p) H'
theorem ok_walkedU (T : TX K mg) : FnOk P w K mg base CX0 5 T.a_walked T.fd_walked ["start", "follow"] (sp_walkedU P w K mg base) := by
  refine T.F_walked.ok sc_walked (fun vs H Q E h => ?_) (fun cdv A outer s H vs Q E hr h => ?_)
  · obtain ⟨v0, f, F, spf, U, s0, n0, L, R, rfl, _⟩ := h
    rfl
  · obtain ⟨v0, f, F, spf, U, s0, n0, L, R, rfl, hp0, hf, ca, h0, hbig, hL, hdep, hinj, hR, hsp, q⟩ := h
    refine ⟨_, (pss_cons (ps_set (i := 2) sc_walked.nd rfl (Or.inl rfl) (LU.pe_udisp rfl hr.units (pv 0) pe_int))
      (pss_cons (ps_set (i := 3) sc_walked.nd rfl (Or.inl rfl) (pe_lst (pa_cons (pv 0) pa_nil)))
      (pss_cons (ps_set (i := 4) sc_walked.nd rfl (Or.inl rfl) (pe_lst pa_nil))
      (pss_cons (ps_while PassesOwn.never (pt_cmpR op_lt (pe_callB (call_lenK K rfl) (by rfl) T.m_len (by decide +kernel) (pa_cons (pv 4) pa_nil)) (pe_callB (call_lenK K rfl) (by rfl) T.m_len (by decide +kernel) (pa_cons (pv 3) pa_nil)) (nomark _))
        (pss_cons (ps_set (i := 5) sc_walked.nd rfl (Or.inl rfl) (pe_lst pa_nil))
          (pss_cons (ps_set (i := 6) sc_walked.nd rfl (Or.inl rfl) (pe_callV (k := 4) (i := 1) P w K mg base rfl rfl rfl rfl rfl (hr.mono (by decide)) rfl (by first | exact Or.inl rfl | exact Or.inr (Or.inl rfl) | exact Or.inr (Or.inr rfl)) (pa_cons (pe_ix (ix_listK K rfl) (pv 3) (pe_callB (call_lenK K rfl) (by rfl) T.m_len (by decide +kernel) (pa_cons (pv 4) pa_nil)) (fun _ _ => rfl)) pa_nil)))
          (pss_cons (ps_for PassesOwn.never rfl (pi_listK K rfl (pv 6)) (pg_name (i := 7) sc_walked.nd rfl (Or.inl rfl))
            (C8.pss_cut (ps_if (pt_cmp (LU.pc_unotin rfl hr.units (pv 7) (pv 2)))
                (pss_cons (LU.ps_uput rfl hr.units (pv 2) (pv 7) (pe_callB (call_lenK K rfl) (by rfl) T.m_len (by decide +kernel) (pa_cons (pv 3) pa_nil)) rfl)
                  (pss_one (ps_expr (pe_bmK K rfl PySem.F.plainAttrs_list PySem.F.slot_list_append PySem.F.type_list_append mt_append (pv 3) (pa_cons (pv 7) pa_nil)))))
                pss_nil)
              (pss_one (ps_expr (pe_bmK K rfl PySem.F.plainAttrs_list PySem.F.slot_list_append PySem.F.type_list_append mt_append (pv 5) (pa_cons (LU.pe_uget rfl hr.units (pv 2) (pv 7) (fun _ _ => rfl)) pa_nil))))))
          (pss_one (ps_expr (pe_bmK K rfl PySem.F.plainAttrs_list PySem.F.slot_list_append PySem.F.type_list_append mt_append (pv 4) (pa_cons (pv 5) pa_nil))))))))
      (pss_one (ps_ret (pe_tup (pa_cons (pv 3) (pa_cons (pv 4) pa_nil))))))))), ?_⟩
    have sl : ∀ m, m ≤ 1000000 → m < sizeLine := fun m hm => Nat.lt_of_le_of_lt hm (by decide)
    -- numbers, keys, table
    refine fun nm nnm H0 u0 r0 => ⟨v0, rfl, u0, U s0, hp0.mono (Tups.same (same_freeU nnm r0)), hdep s0 h0, fun H1 pu => ?_⟩
    have r1 : ∀ b, b ≠ nm → H1 b = H b := fun b hb => (pu.2 b hb).trans (r0 b hb)
    have sA : Same H H1 := same_freeU nnm r1
    have u1 : UAt w H1 nm (nU U [s0]) := pu.1
    refine ⟨v0, rfl, by show 1 ≤ sizeLine; decide, fun ka nka => ⟨by show 0 ≤ sizeLine; decide, fun ta nta => ?_⟩⟩
    have d1 : nm ≠ ka := u1.ne_none nka
    have u2 := u1.same (same_new (o := .lst [v0]) nka)
    have d2 : nm ≠ ta := u2.ne_none nta
    have d3 : ka ≠ ta := ne_of_none upd_same nta
    have fka : H ka = none := sA.free nka
    have sm0 : Same H (upd H1 ka (.lst [v0])) := sA.trans (same_new nka)
    have fta : H ta = none := sm0.free nta
    -- while
    refine ⟨fun m σ H' => ∃ (ks : List Nat) (kvs : List V) (tbl : List (List Nat)) (ras : List Addr) (y5 y6 y7 : Option V), m + tbl.length = n0 + 1 ∧ σ = [some v0, some (.ref f), some (.ref nm), some (.ref ka), some (.ref ta), y5, y6, y7] ∧ Same H H' ∧ UAt w H' nm (nU U ks) ∧ H' ka = some (.lst kvs) ∧ NVs H' (ks.map U) kvs ∧ LolAt H' ta ras tbl ∧ WI n0 L R s0 ks tbl ∧ (∀ r ∈ tbl, r.length = L) ∧ (∀ a ∈ ras, H a = none ∧ a ≠ ta ∧ a ≠ ka),
      ⟨n0 + 1, [s0], [v0], [], [], none, none, none, rfl, rfl, sm0.trans (same_new nta), u2.same (same_new nta), same_new nta _ _ upd_same, .cons (hp0.mono (Tups.same (sm0.trans (same_new nta)))) .nil, ⟨upd_same, rfl, fun i b w x => by simp at x⟩, WI.start h0, (fun _ h => nomatch h), fun _ h => nomatch h⟩, fun m σ H1 hW => ?_⟩
    obtain ⟨ks, kvs, tbl, ras, y5, y6, y7, hm, rfl, sm1, en, ek1, pk1, ht1, wi, full, fr⟩ := hW
    have hmany := wi.many
    have hrl : ras.length = tbl.length := ht1.2.1
    have hkl : kvs.length = ks.length := by rw [nvsL pk1, List.length_map]
    refine ⟨.ref ta, rfl, ta, _, rfl, .inl (.inl (.inl ht1.1)), .ref ka, rfl, ka, _, rfl, .inl (.inl (.inl ek1)), _, _, rfl, rfl, _, rfl, ite2 (fun z => ?_) (fun z => ?_)⟩
    · have hlt : tbl.length < ks.length := by
        have := of_decide_eq_true z
        rw [List.length_map, hrl, hkl] at this
        omega
      refine ⟨fun σ' H' => ∃ (ks : List Nat) (kvs : List V) (row : List Nat) (ras' : List Addr) (y5 y6 y7 : Option V), σ' = [some v0, some (.ref f), some (.ref nm), some (.ref ka), some (.ref ta), y5, y6, y7] ∧ Same H H' ∧ UAt w H' nm (nU U ks) ∧ H' ka = some (.lst kvs) ∧ NVs H' (ks.map U) kvs ∧ LolAt H' ta ras' (tbl ++ [row]) ∧ WI n0 L R s0 ks (tbl ++ [row]) ∧ row.length = L ∧ (∀ a ∈ ras', H a = none ∧ a ≠ ta ∧ a ≠ ka), fun σ' H' hN => ?_, ?_⟩
      · obtain ⟨ks', kvs', row, ras', y5, y6, y7, r1, r2, r3, r4, r4', r5, r6, r7, r8⟩ := hN
        have := r6.le
        have hm' := r6.many
        rw [List.length_append] at this
        have this : tbl.length + 1 ≤ ks'.length := this
        refine ⟨m - 1, by omega, ks', kvs', tbl ++ [row], ras', y5, y6, y7, ?_, r1, r2, r3, r4, r4', r5, r6, mem_snoc full r7, r8⟩
        rw [List.length_append]
        show m - 1 + (tbl.length + 1) = n0 + 1
        omega
      -- row = []
      refine ⟨by show 0 ≤ sizeLine; decide, fun ra nra => ?_⟩
      have sm2 : Same H (upd H1 ra (.lst [])) := sm1.trans (same_new nra)
      have s2 : Same H1 (upd H1 ra (.lst [])) := same_new nra
      have era : (upd H1 ra (.lst [])) ra = some (.lst (vi [])) := upd_same
      have fra : H ra = none := sm1.free nra
      have ra1 : nm ≠ ra := en.ne_none nra
      have ra2 : ka ≠ ra := ne_of_none ek1 nra
      have ra3 : ta ≠ ra := ne_of_none ht1.1 nra
      have ra4 : ∀ a ∈ ras, a ≠ ra := fun a ha e => by
        obtain ⟨i, hi⟩ := List.mem_iff_getElem?.mp ha
        have hil : i < tbl.length := by
          rw [← hrl]
          exact (List.getElem?_eq_some_iff.mp hi).1
        have := ht1.2.2 i a _ hi (List.getElem?_eq_getElem hil)
        exact ne_of_none this nra e
      have en2 := en.same s2
      have ek2 := s2 _ _ ek1
      have pk2 := pk1.mono (Tups.same s2)
      have ht2 := ht1.same s2
      generalize upd H1 ra (.lst []) = H2 at sm2 s2 era en2 ek2 pk2 ht2
      have hks : ks[tbl.length]? = some ks[tbl.length] := List.getElem?_eq_getElem hlt
      generalize ks[tbl.length] = sx at hks
      have hsx : sx < n0 := wi.lt sx (List.mem_of_getElem? hks)
      obtain ⟨hRl, hRt⟩ := hR sx hsx
      obtain ⟨vx, hvk, hpx⟩ := nvsA pk2 (i := tbl.length) (k := U sx) (by rw [List.getElem?_map, hks]; rfl)
      rw [← hrl] at hvk
      -- behind = follow(keys[len(table)])
      refine ⟨f, F, spf, rfl, sm2 _ _ hf, ca, .ref ka, rfl, .ref ta, rfl, ta, _, rfl, .inl (.inl (.inl ht2.1)), ka, _, _, vx, rfl, rfl, .inl (.inl ek2), ?_, sm2 _ _ hf, hsp sx vx H2 _ hsx sm2 hpx fun H3 pb us s3 npb eb pbs => ?_⟩
      · rw [List.length_map]
        exact atI_nat hvk
      have wi0 := wi.open_ hlt
      have b1 : nm ≠ pb := en2.ne_none npb
      have b2 : ka ≠ pb := ne_of_none ek2 npb
      have b3 : ra ≠ pb := ne_of_none era npb
      have hbl : us.length = L := by rw [nvsL pbs, List.length_map, hRl]
      -- for key in behind
      refine ⟨.ref pb, rfl, pb, rfl, ⟨_, .inl (.inl eb)⟩, ?_⟩
      refine for_it (walk_list (K := K) (a := pb) (xs := us)) (fun c σ H' => (∃ ks kvs cur, Same H H' ∧ UAt w H' nm (nU U ks) ∧ H' ka = some (.lst kvs) ∧ NVs H' (ks.map U) kvs ∧ LolAt H' ta ras tbl ∧ H' ra = some (.lst (vi cur)) ∧ H' pb = some (.lst us) ∧ NVs H' ((R sx).map U) us ∧ cur.length = c ∧ ks[tbl.length]? = some sx ∧ WI n0 L R s0 ks (tbl ++ [cur])) ∧ ∃ y7, σ = [some v0, some (.ref f), some (.ref nm), some (.ref ka), some (.ref ta), some (.ref ra), some (.ref pb), y7]) ⟨⟨ks, kvs, [], sm2.trans s3, en2.same s3, s3 _ _ ek2, pk2.mono (Tups.same s3), ht2.same s3, s3 _ _ era, eb, pbs, rfl, hks, wi0⟩, y7, rfl⟩ (fun c σ H' _ hW => ?_) (fun c x σ H4 H4' hc hW hY => ?_) (fun σ H4 hW => ?_)
      · obtain ⟨⟨_, _, _, _, _, _, _, _, _, z, _⟩, _⟩ := hW
        exact .inl (.inl z)
      · obtain ⟨⟨ks, kvs, cur, sm4, en4, ek4, pk4, ht4, er4, eb4, pb4, lc, hk4, wi4⟩, y7, rfl⟩ := hW
        obtain ⟨rfl, hx⟩ := hY
        have hcl : c < (R sx).length := by
          have := (List.getElem?_eq_some_iff.mp hx).1
          rw [hRl, ← hbl]
          exact this
        have ht : (R sx)[c]? = some (R sx)[c] := List.getElem?_eq_getElem hcl
        generalize (R sx)[c] = t at ht
        obtain ⟨x', hx', nx⟩ := nvsA pb4 (i := c) (k := U t) (by rw [List.getElem?_map, ht]; rfl)
        obtain rfl : x' = x := Option.some.inj (hx'.symm.trans hx)
        have htn := hRt t (List.mem_of_getElem? ht)
        have hdt := hdep t htn
        have hm4 := wi4.many
        have hkl4 : kvs.length = ks.length := by rw [nvsL pk4, List.length_map]
        have inj : ∀ {ks' : List Nat}, (∀ y ∈ ks', y < n0) → ∀ y ∈ ks', U y = U t → y = t := fun hl y hy e => hinj y t (hl y hy) htn e
        have nlol : ∀ {H5 : Hp}, (∀ b, b ≠ nm → b ≠ ka → b ≠ ra → H5 b = H4' b) → LolAt H5 ta ras tbl := fun {H5} hh => by
          refine ⟨by rw [hh ta (Ne.symm d2) (Ne.symm d3) ra3]; exact ht4.1, ht4.2.1, fun i b w' x' y' => ?_⟩
          have z := ht4.2.2 i b w' x' y'
          rw [hh b (en4.ne z (fun φ q => by cases q)).symm (fr b (List.mem_of_getElem? x')).2.2 (ra4 b (List.mem_of_getElem? x'))]
          exact z
        refine ⟨fun σ' H' => ∃ ks' kvs', (ks' = ks ∨ (ks' = ks ++ [t] ∧ t ∉ ks)) ∧ t ∈ ks' ∧ (∀ y ∈ ks', y < n0) ∧ σ' = [some v0, some (.ref f), some (.ref nm), some (.ref ka), some (.ref ta), some (.ref ra), some (.ref pb), some x'] ∧ Same H H' ∧ UAt w H' nm (nU U ks') ∧ H' ka = some (.lst kvs') ∧ NVs H' (ks'.map U) kvs' ∧ Tups H4' H' ∧ (∀ b, b ≠ nm → b ≠ ka → H' b = H4' b), ?_, fun σ' H' hM => ?_⟩
        · refine ⟨x', rfl, .ref nm, rfl, nm, _, U t, rfl, en4, nx, hdt, _, rfl, ?_⟩
          rw [valV_nU U t ks (inj wi4.lt)]
          by_cases hin : t ∈ ks
          · rw [if_pos hin]
            refine iteF ?_
            exact ⟨ks, kvs, .inl rfl, hin, wi4.lt, rfl, sm4, en4, ek4, pk4, Tups.refl _, fun _ _ _ => rfl⟩
          · rw [if_neg hin]
            refine iteT ?_
            have ep : putK (nU U ks) (U t) (V.int (kvs.length : Int)) = nU U (ks ++ [t]) := by
              rw [putK_new, nU_snoc, hkl4]
              rw [valV_nU U t ks (inj wi4.lt), if_neg hin]
            refine ⟨.ref ka, rfl, ka, _, rfl, .inl (.inl (.inl ek4)), .ref nm, rfl, x', rfl, nm, _, U t, rfl, en4, nx, hdt, by rw [nU_len]; exact sl _ (by omega), fun H5 p5 => ?_⟩
            rw [ep] at p5
            have t5 : Tups H4' H5 := UPut.tups en4 p5
            have ek5 : H5 ka = some (.lst kvs) := by
              rw [p5.2 ka (Ne.symm d1)]
              exact ek4
            have pk5 : NVs H5 ((ks ++ [t]).map U) (kvs ++ [x']) := by
              rw [List.map_append]
              exact nvsS (pk4.mono t5) (nx.mono t5)
            refine ⟨.ref ka, rfl, .inl ⟨rfl, _, .inl (.inl ek5)⟩, x', rfl, ka, _, _, rfl, rfl, ek5, by rw [hkl4]; exact sl _ (by omega), ks ++ [t], kvs ++ [x'], .inr ⟨rfl, hin⟩, List.mem_append_right _ (List.mem_singleton.mpr rfl), mem_snoc wi4.lt htn, rfl, ?_, ?_, ?_, ?_, ?_, ?_⟩
            · intro b o e
              rw [upd_ne (ne_of_none e fka), p5.2 b (ne_of_none e nnm)]
              exact sm4 _ _ e
            · exact p5.1.mono (Tups.lst ek5) fun o e => by rw [upd_ne d1]; exact e
            · rw [upd_same]
            · exact pk5.mono (Tups.lst ek5)
            · exact t5.trans (Tups.lst ek5)
            · intro b h1 h2
              rw [upd_ne h2, p5.2 b h1]
        · obtain ⟨ks', kvs', hk', htin, hlt', rfl, sm5, en5, ek5, pk5, t5, rest⟩ := hM
          have er5 : H' ra = some (.lst (vi cur)) := by
            rw [rest ra (Ne.symm ra1) (Ne.symm ra2)]
            exact er4
          have hvt : ks'[ks'.idxOf t]? = some t := by
            have := List.idxOf_lt_length_iff.mpr htin
            rw [List.getElem?_eq_getElem this, List.getElem_idxOf]
          have hk5 : ks'[tbl.length]? = some sx := by
            rcases hk' with rfl | ⟨rfl, _⟩
            · exact hk4
            · rw [List.getElem?_append_left (List.getElem?_eq_some_iff.mp hk4).1]
              exact hk4
          -- row.append(numbers[key])
          refine ⟨.ref ra, rfl, .inl ⟨rfl, _, .inl (.inl er5)⟩, .ref nm, rfl, x', rfl, nm, _, U t, .int (ks'.idxOf t : Nat), rfl, en5, nx.mono t5, hdt, ?_, ra, _, _, rfl, rfl, er5, by rw [List.length_map]; exact sl _ (by omega), ⟨ks', kvs', cur ++ [ks'.idxOf t], ?_, ?_, ?_, pk5.mono (Tups.lst er5), ?_, ?_, ?_, (pb4.mono t5).mono (Tups.lst er5), ?_, hk5, ?_⟩, _, rfl⟩
          · rw [valV_nU U t ks' (inj hlt'), if_pos htin]
          · intro b o e
            rw [upd_ne (ne_of_none e fra)]
            exact sm5 _ _ e
          · exact en5.mono (Tups.lst er5) fun o e => by rw [upd_ne ra1]; exact e
          · rw [upd_ne ra2]
            exact ek5
          · exact nlol fun b h1 h2 h3 => by
              rw [upd_ne h3]
              exact rest b h1 h2
          · rw [upd_same, vi_snoc]
          · rw [upd_ne (Ne.symm b3), rest pb (Ne.symm b1) (Ne.symm b2)]
            exact eb4
          · rw [List.length_append, lc]
            rfl
          · exact wi4.put hk4 (by rw [lc]; exact ht) htn (by omega) hvt hk'
      · obtain ⟨⟨ks, kvs, cur, sm4, en4, ek4, pk4, ht4, er4, eb4, pb4, lc, hk4, wi4⟩, y7, rfl⟩ := hW
        rw [hbl] at lc
        have nt : ∀ a ∈ ras, a ≠ ta := fun a ha => (fr a ha).2.1
        -- table.append(row)
        refine ⟨.ref ta, rfl, .inl ⟨rfl, _, .inl (.inl ht4.1)⟩, .ref ra, rfl, ta, _, _, rfl, rfl, ht4.1, by rw [List.length_map, hrl]; exact sl _ (by omega), ks, kvs, cur, ras ++ [ra], _, _, _, rfl, ?_, ?_, ?_, pk4.mono (Tups.lst ht4.1), ?_, wi4, lc, ?_⟩
        · intro b o e
          rw [upd_ne (ne_of_none e fta)]
          exact sm4 _ _ e
        · exact en4.mono (Tups.lst ht4.1) fun o e => by rw [upd_ne d2]; exact e
        · rw [upd_ne d3]
          exact ek4
        · rw [vr_snoc]
          exact lol_snoc ht4 er4 nt (Ne.symm ra3)
        · exact mem_snoc fr ⟨fra, Ne.symm ra3, Ne.symm ra2⟩
    · have hle := wi.le
      have hlen : tbl.length = ks.length := by
        have : ¬ (((vr ras).length : Nat) : Int) < (kvs.length : Nat) := fun y => z (decide_eq_true y)
        rw [List.length_map, hrl, hkl] at this
        omega
      refine ⟨.ref ka, rfl, .ref ta, rfl, by show 2 ≤ sizeLine; decide, fun p np => ?_⟩
      exact q _ p ka ta kvs ras ks tbl (sm1.trans (same_new np)) upd_same (same_new np _ _ ek1) (pk1.mono (Tups.same (same_new np))) (ht1.same (same_new np)) wi hlen full
end
end LH

namespace LH
open PySem PySem.Spec PyProof.Rows L2 NdefX LamX LU
section
variable {P : Program} {w : World} {K : PySem.W.Frag} {mg : Str → Option Value} {base : Heap}
def sp_builtU (P : Program) (w : World) (K : PySem.W.Frag) (mg : Str → Option Value) (base : Heap) : Sp := fun vs H Q _ => ∃ (z : Str) (v0 : V) (f g : Addr) (F G : NF) (spf spg : Sp) (U : Nat → NestedKey) (s0 n0 L : Nat) (R : Nat → List Nat) (fin : Nat → Bool), vs = [.str z, v0, .ref f, .ref g] ∧ NV H (U s0) v0 ∧ H f = some (FnO f F) ∧ Callable P w K mg base 4 f spf ∧ H g = some (FnO g G) ∧ Callable P w K mg base 4 g spg ∧
  s0 < n0 ∧ n0 ≤ 1000000 ∧ 1 ≤ L ∧ L ≤ 5 ∧ (∀ s, s < n0 → (U s).depth ≤ 8) ∧ (∀ s t, s < n0 → t < n0 → U s = U t → s = t) ∧ (∀ s, s < n0 → (R s).length = L ∧ ∀ t ∈ R s, t < n0) ∧
  (∀ (s : Nat) (v : V) (H' : Hp) (Q' : VK), s < n0 → Same H H' → NV H' (U s) v → (∀ H'' b us, Same H' H'' → H' b = none → H'' b = some (.lst us) → NVs H'' ((R s).map U) us → Q' (.ref b) H'') → spf [v] H' Q' E0) ∧
  (∀ (s : Nat) (v : V) (H' : Hp) (Q' : VK), s < n0 → Same H H' → NV H' (U s) v → (∀ H'', Same H' H'' → Q' (.bl (fin s)) H'') → spg [v] H' Q' E0) ∧
  ∀ H' p (M : Mach) ks tbl hl, Same H H' → MachAt H' p M → M.z = z → BuiltOk n0 L R s0 fin M ks tbl hl → Q (.ref p) H'
theorem ok_builtU (T : TX K mg) : FnOk P w K mg base CX0 6 T.a_built T.fd_built ["letters", "start", "follow", "is_end"] (sp_builtU P w K mg base) := by
  have G_walked : FnOk P w K mg base CX0 5 T.a_walked T.fd_walked ["start", "follow"] (sp_walkedU P w K mg base) := ok_walkedU T
  have G_parted : FnOk P w K mg base CX0 2 T.a_parted T.fd_parted ["table", "ended"] sp_parted := ok_parted T
  have G_merged : FnOk P w K mg base CX0 1 T.a_merged T.fd_merged ["letters", "table", "ended", "homes"] sp_merged := ok_merged T
  refine T.F_built.ok sc_built (fun vs H Q E h => ?_) (fun cdv A outer s H vs Q E hr h => ?_)
  · obtain ⟨z, v0, f, g, F, G, spf, spg, U, s0, n0, L, R, fin, rfl, _⟩ := h
    rfl
  · obtain ⟨z, v0, f, g, F, G, spf, spg, U, s0, n0, L, R, fin, rfl, hp0, hf, caf, hg, cag, h0, hbig, hL1, hL5, hdep, hinj, hR, hspf, hspg, q⟩ := h
    refine ⟨_, (pss_cons (ps_asg (pe_call G_walked (hr.mono (by decide)) (by rfl) T.g_walked T.F_walked.kp T.b_walked .nil pass0 (pa_cons (pv 1) (pa_cons (pv 2) pa_nil))) (pg_tupK (n := 2) K rfl (by rfl) (pgs_cons (pg_name (i := 4) sc_built.nd rfl (Or.inl rfl)) (pgs_cons (pg_name (i := 5) sc_built.nd rfl (Or.inl rfl)) pgs_nil))))
      (pss_cons (ps_setLc (i := 6) (own := [("key", 7)]) (g := gName 7) (tt := tYes) (by rfl) sc_built.nd rfl rfl (sw_true rfl rfl rfl (by decide +kernel)) (pi_listK K rfl (pv 4)) (blkOk_by (own := [("key", 7)]) (N := N_built) (by kernel_rfl)) (fun _ _ _ _ _ => (pg_name (i := 7) sc_built.nd rfl (by first | exact Or.inl rfl | exact Or.inr rfl))) (fun _ _ _ _ _ => pts_nil) (fun _ _ _ _ _ => (pe_callV (k := 4) (i := 3) P w K mg base rfl rfl rfl rfl rfl (hr.mono (by decide)) rfl (by first | exact Or.inl rfl | exact Or.inr (Or.inl rfl) | exact Or.inr (Or.inr rfl)) (pa_cons (pv 7) pa_nil))))
      (pss_one (ps_ret (pe_call G_merged (hr.mono (by decide)) (by rfl) T.g_merged T.F_merged.kp T.b_merged .nil pass0 (pa_cons (pv 0) (pa_cons (pv 5) (pa_cons (pv 6) (pa_cons (pe_call G_parted (hr.mono (by decide)) (by rfl) T.g_parted T.F_parted.kp T.b_parted .nil pass0 (pa_cons (pv 5) (pa_cons (pv 6) pa_nil))) pa_nil))))))))), ?_⟩
    -- keys, table = walked(start, follow)
    refine ⟨v0, rfl, .ref f, rfl, v0, f, F, spf, U, s0, n0, L, R, rfl, hp0, hf, caf, h0, hbig, hL5, hdep, hinj, hR, hspf, fun H1 p ka tb kvs ras ks tbl sm1 ep ek pk et wi len full => ?_⟩
    refine ⟨p, [.ref ka, .ref tb], rfl, .inl (.inl ep), rfl, .ref ka, [.ref tb], rfl, .ref tb, [], rfl, rfl, ?_⟩
    have tk := BuiltOk.tab wi len full hL1 hL5 hbig
    have hm := wi.many
    have hkl : kvs.length = ks.length := by rw [nvsL pk, List.length_map]
    -- ended
    refine ⟨.ref ka, rfl, ka, rfl, ⟨_, .inl (.inl ek)⟩, fun D nD => ?_⟩
    have fD : H D = none := sm1.free nD
    refine lc_it (walk_list (K := K) (a := ka) (xs := kvs)) (fun i H' => Same H1 H' ∧ H' D = some (.lst (((ks.take i).map fin).map V.bl))) ⟨same_new nD, upd_same⟩ (fun i H' _ hW => .inl (.inl (hW.1 _ _ ek))) (fun i x H2 H2' hi hW hY => ?_) (fun H2 hW => ?_)
    · obtain ⟨s2, e2⟩ := hW
      obtain ⟨rfl, hx⟩ := hY
      rw [hkl] at hi
      have ht : ks[i]? = some ks[i] := List.getElem?_eq_getElem hi
      generalize ks[i] = t at ht
      obtain ⟨x', hx', nx⟩ := nvsA pk (i := i) (k := U t) (by rw [List.getElem?_map, ht]; rfl)
      obtain rfl : x' = x := Option.some.inj (hx'.symm.trans hx)
      refine ⟨rfl, lcyes ?_⟩
      refine ⟨g, G, spg, rfl, s2 _ _ (sm1 _ _ hg), cag, x', rfl, s2 _ _ (sm1 _ _ hg), hspg t x' H2' _ (wi.lt t (List.mem_of_getElem? ht)) (sm1.trans s2) (nx.mono (Tups.same s2)) fun H3 s3 => ?_⟩
      refine ⟨_, s3 _ _ e2, ?_, fun b o eb => ?_, ?_⟩
      · rw [List.length_map, List.length_map, List.length_take]
        exact Nat.lt_of_le_of_lt (show _ ≤ 1000000 by omega) (by decide)
      · rw [upd_ne (ne_of_none eb nD)]
        exact s3 _ _ (s2 _ _ eb)
      · rw [upd_same, take_snoc ht, List.map_append, List.map_append]
        rfl
    · obtain ⟨s2, e2⟩ := hW
      have etk : ks.take kvs.length = ks := List.take_of_length_le (by rw [hkl]; exact Nat.le_refl _)
      rw [etk] at e2
      have lbs : (ks.map fin).length = ks.length := List.length_map ..
      -- merged(letters, table, ended, parted(table, ended))
      refine ⟨.str z, rfl, .ref tb, rfl, .ref D, rfl, .ref tb, rfl, .ref D, rfl, tb, D, ras, tbl, ks.map fin, ks.length, L, rfl, et.same s2, tk, e2, lbs, fun H3 ho hl s3 fho eho lhl like => ?_⟩
      refine ⟨z, tb, D, ho, ras, tbl, ks.map fin, hl, ks.length, L, rfl, (et.same s2).same s3, tk, s3 _ _ e2, lbs, eho, lhl, fun H4 p4 s4 mm => ?_⟩
      exact q H4 p4 _ ks tbl hl (((sm1.trans s2).trans s3).trans s4) mm rfl ⟨wi, len, full, lhl, like, rfl, rfl⟩
end
end LH

namespace LH
open PySem PySem.Spec PyProof.Rows L2 NdefX LamX
def marksOf (M : Mach) : List Bool := (List.range M.rows.length).map fun s => decide (s ∈ M.ends)
def marks_ (n : Nat) (es : List Nat) : List Bool := (List.range n).map fun s => decide (s ∈ es)
theorem marks_set {n : Nat} {es : List Nat} {e : Nat} (_ : e < n) : (marks_ n es).set e true = marks_ n (es ++ [e]) := by
  refine List.ext_getElem? fun i => ?_
  unfold marks_
  by_cases hi : i < n
  · rw [List.getElem?_set]
    simp only [List.getElem?_map, List.getElem?_range hi, List.length_map, List.length_range, Option.map_some, List.mem_append, List.mem_singleton]
    by_cases q : e = i
    · subst q
      simp [hi]
    · have q' : ¬ i = e := fun z => q z.symm
      simp [q, q']
  · rw [List.getElem?_eq_none (by simp; omega), List.getElem?_eq_none (by simp; omega)]
end LH

namespace LH
open PySem PySem.Spec PyProof.Rows L2 NdefX LamX
theorem back_hide {S : Addr → Prop} {H : Hp} : back S H (hide S H) = H := by
  funext b
  by_cases z : S b
  · rw [back_in z]
  · rw [back_out z, hide_out z]
theorem CellsT.sub {X : Cx} {H : Hp} {fr fr1 : List Str} {ws ws1 : List (Option V)} {cl : List (Str × Addr)} {js1 : List Nat} (C : CellsT H X.env.cells fr ws) (cap : Caps X cl fr1 js1) (len : ws1.length = fr1.length) (pos : ∀ (i : Nat) (y : Str), fr1[i]? = some y → ∃ i' : Nat, fr[i']? = some y ∧ ws[i']? = ws1[i]?) : CellsT H cl fr1 ws1 := by
  refine ⟨len, fun x y c h1 h2 => C.inj x y c (cap.sub x c h1) (cap.sub y c h2), fun y c h => C.all y c (cap.sub y c h), fun i y hy => ?_⟩
  obtain ⟨i', a, b⟩ := pos i y hy
  obtain ⟨c, hc, hv⟩ := C.has i' y a
  exact ⟨c, cap.sup y (List.mem_of_getElem? hy) c hc, fun v ev => hv v (by rw [b]; exact ev)⟩
end LH

namespace LH
open PySem PySem.Spec PyProof.Rows L2 NdefX LamX
/-! ### what the made machines have -/
theorem run_runs (M : Mach) : ∀ (cs : List Nat) (s : Nat), cs.foldl M.step s = runs M.rows s (cs.map fun c => M.z.cps.toList.idxOf c)
  | [], _ => rfl
  | c :: r, s => run_runs M r (M.step s c)
theorem has_runs (M : Mach) (cs : List Nat) : M.has cs = decide (runs M.rows 0 (cs.map fun c => M.z.cps.toList.idxOf c) ∈ M.ends) := by
  unfold Mach.has Mach.run
  rw [run_runs]
theorem cols_lt {z : Str} {cs : List Nat} (h : ∀ c ∈ cs, c ∈ z.cps.toList) : ∀ c ∈ cs.map fun c => z.cps.toList.idxOf c, c < z.length := fun c hc => by
  obtain ⟨d, hd, rfl⟩ := List.mem_map.mp hc
  exact idx_lt (h d hd)
section
variable {n0 L s0 : Nat} {R : Nat → List Nat} {fin : Nat → Bool} {M : Mach} {ks : List Nat} {tbl : List (List Nat)} {hl : List Nat}
theorem BuiltOk.few (b : BuiltOk n0 L R s0 fin M ks tbl hl) : M.rows.length ≤ n0 := by
  rw [b.rows]
  unfold mRows headsOf
  rw [List.length_map]
  have h1 := List.length_filter_le (isHead hl) (List.range hl.length)
  rw [List.length_range, b.hlen] at h1
  have h2 := b.wi.many
  rw [b.hlen]
  omega
theorem BuiltOk.mach (b : BuiltOk n0 L R s0 fin M ks tbl hl) (k : TabOk ks.length L tbl) (hz : IsLet M.z) (hL : L = M.z.length) : M.Ok := by
  have c := b.canon k
  exact ⟨hz, c.one, fun r hr => by rw [← hL]; exact c.row r hr, c.endl, c.rise⟩
end
end LH

namespace LH
open PySem PySem.Spec PyProof.Rows L2 NdefX LamX
theorem idx_of_rise {cs : List Nat} (h : cs.Pairwise (· < ·)) {c : Nat} (hc : c < cs.length) : cs.idxOf (cs.getD c 0) = c := by
  have e : cs.getD c 0 = cs[c] := by
    rw [List.getD_eq_getElem?_getD, List.getElem?_eq_getElem hc]
    rfl
  have hm : cs.getD c 0 ∈ cs := by
    rw [e]
    exact List.getElem_mem hc
  have hi := List.idxOf_lt_length_iff.mpr hm
  have g : cs[cs.idxOf (cs.getD c 0)] = cs.getD c 0 := List.getElem_idxOf hi
  rcases Nat.lt_trichotomy (cs.idxOf (cs.getD c 0)) c with l | l | l
  · have := List.pairwise_iff_getElem.mp h _ _ hi hc l
    omega
  · exact l
  · have := List.pairwise_iff_getElem.mp h _ _ hc hi l
    omega
theorem canon_mach {z : Str} {M N : Mach} (k : M.Ok) (hz : M.z = z) (nz : N.z = z) (c : Canon z.length M.rows M.ends) (d : Canon z.length N.rows N.ends) (e : ∀ cs, (∀ c ∈ cs, c ∈ z.cps.toList) → M.has cs = N.has cs) : M = N := by
  have hlet : IsLet z := hz ▸ k.let_
  have q := canon_uniq c d fun w hw => by
    have hcs : ∀ x ∈ w.map (fun c => z.cps.toList.getD c 0), x ∈ z.cps.toList := fun x hx => by
      obtain ⟨c, hc, rfl⟩ := List.mem_map.mp hx
      have hl : c < z.cps.toList.length := by
        rw [Array.length_toList]
        exact hw c hc
      rw [List.getD_eq_getElem?_getD, List.getElem?_eq_getElem hl]
      exact List.getElem_mem hl
    have ew : (w.map fun c => z.cps.toList.getD c 0).map (fun c => z.cps.toList.idxOf c) = w := by
      rw [List.map_map]
      conv => rhs; rw [← List.map_id w]
      refine List.map_congr_left fun c hc => ?_
      exact idx_of_rise hlet.rise (by rw [Array.length_toList]; exact hw c hc)
    have := e _ hcs
    rw [has_runs, has_runs, hz, nz, ew] at this
    exact decide_eq_decide.mp this
  obtain ⟨a, b⟩ := q
  cases M
  cases N
  simp only at a b hz nz
  subst a b hz nz
  rfl
end LH

namespace LH
open PySem PySem.Spec PyProof.Rows L2 NdefX LamX
/-! ### a machine's data -/
def dI (ns : List Nat) : PyData := .tuple (ns.map fun (n : Nat) => PyData.int (n : Int))
def dM (M : Mach) : PyData := .tuple [.str M.z, .tuple (M.rows.map dI), dI M.ends]
theorem dp_ints {K : PySem.W.Frag} {H : Hp} : ∀ ns : List Nat, DpAll K H (vi ns) (ns.map fun (n : Nat) => PyData.int (n : Int))
  | [] => .nil
  | n :: r => .cons (.int _) (dp_ints r)
theorem dp_rows {K : PySem.W.Frag} {H : Hp} : ∀ {as : List Addr} {rows : List (List Nat)}, RowsAt H as rows → DpAll K H (vr as) (rows.map dI)
  | [], [], _ => .nil
  | [], _ :: _, h => nomatch h.1
  | _ :: _, [], h => nomatch h.1
  | a :: as, r :: rows, h => .cons (.tup (.inl (.inl (h.2 0 a r rfl rfl))) (dp_ints r)) (dp_rows ⟨Nat.succ.inj h.1, fun i b p x y => h.2 (i + 1) b p x y⟩)
theorem dp_mach {K : PySem.W.Frag} {H : Hp} {p : Addr} {M : Mach} (h : MachAt H p M) : Dp K H (.ref p) (dM M) := by
  obtain ⟨t, e, as, h1, h2, h3, h4⟩ := h
  exact .tup (.inl (.inl h1)) (.cons (.str _) (.cons (.tup (.inl (.inl h2)) (dp_rows h3)) (.cons (.tup (.inl (.inl h4)) (dp_ints _)) .nil)))
theorem can_ints : ∀ ns : List Nat, PyData.canLayAll0 (ns.map fun (n : Nat) => PyData.int (n : Int)) = true
  | [] => rfl
  | _ :: r => by simp [PyData.canLayAll0, PyData.canLay0, can_ints r]
theorem can_rows : ∀ rows : List (List Nat), PyData.canLayAll0 (rows.map dI) = true
  | [] => rfl
  | r :: rows => by
    have h1 : PyData.canLay0 (dI r) = true := by
      unfold dI
      simp [PyData.canLay0, can_ints]
    simp [PyData.canLayAll0, h1, can_rows rows]
theorem depth_ints : ∀ ns : List Nat, PyData.depthAll (ns.map fun (n : Nat) => PyData.int (n : Int)) = 0
  | [] => rfl
  | _ :: r => by simp [PyData.depthAll, PyData.depth, depth_ints r]
theorem depth_rows : ∀ rows : List (List Nat), PyData.depthAll (rows.map dI) ≤ 1
  | [] => Nat.zero_le _
  | r :: rows => by
    have h1 : PyData.depth (dI r) = 1 := by
      unfold dI
      simp [PyData.depth, depth_ints]
    simp [PyData.depthAll, h1, depth_rows rows]
theorem strOk_let {z : Str} (h : IsLet z) : PyData.strOk z = true := by
  unfold PyData.strOk
  rw [Array.all_eq_true']
  intro c hc
  have := (h.small c (Array.mem_toList_iff.mpr hc)).2
  simp
  omega
theorem can_mach {M : Mach} (k : M.Ok) : (dM M).canLay0 = true := by
  have h1 := strOk_let k.let_
  have h2 : PyData.canLay0 (dI M.ends) = true := by
    unfold dI
    simp [PyData.canLay0, can_ints]
  unfold dM
  simp [PyData.canLay0, PyData.canLayAll0, h1, h2, can_rows]
theorem shaped_mach {M : Mach} (k : M.Ok) : SeqAt.shaped (dM M) = true := by
  unfold SeqAt.shaped
  rw [can_mach k]
  have h1 := depth_rows M.rows
  have h2 : PyData.depth (dI M.ends) = 1 := by
    unfold dI
    simp [PyData.depth, depth_ints]
  have : (dM M).depth ≤ 64 := by
    unfold dM
    simp only [PyData.depth, PyData.depthAll, h2]
    omega
  rw [decide_eq_true this]
  rfl
theorem ne_mach {M : Mach} (k : M.Ok) : (!PyData.eqv (dM M) (dM M)) = false := by
  rw [SeqAt.eqv_refl _ (can_mach k)]
  rfl
theorem shaped_vi (ns : List Nat) : SeqAt.shaped (.list (ns.map fun (n : Nat) => PyData.int (n : Int))) = true := by
  have all : PyData.canLayAll0 (ns.map fun (n : Nat) => PyData.int (n : Int)) = true ∧ PyData.depthAll (ns.map fun (n : Nat) => PyData.int (n : Int)) = 0 := by
    induction ns with
    | nil => exact ⟨rfl, rfl⟩
    | cons n r ih =>
      refine ⟨?_, ?_⟩
      · show (true && PyData.canLayAll0 (r.map fun (n : Nat) => PyData.int (n : Int))) = true
        rw [ih.1]
        rfl
      · show max 0 (PyData.depthAll (r.map fun (n : Nat) => PyData.int (n : Int))) = 0
        rw [ih.2]
        rfl
  unfold SeqAt.shaped
  rw [Bool.and_eq_true]
  refine ⟨all.1, decide_eq_true ?_⟩
  show PyData.depthAll (ns.map fun (n : Nat) => PyData.int (n : Int)) + 1 ≤ 64
  omega
end LH

namespace LH
open PySem PySem.Spec PyProof.Rows L2
/-! ### patterns: items, words of items -/
structure Itm where
  s : List Nat
  m : Nat
deriving DecidableEq
inductive Mt : List Itm → List Nat → Prop
  | nil : Mt [] []
  | one {s r c w} : c ∈ s → Mt r w → Mt (⟨s, 0⟩ :: r) (c :: w)
  | skip {s r w} : Mt r w → Mt (⟨s, 1⟩ :: r) w
  | star {s r c w} : c ∈ s → Mt (⟨s, 1⟩ :: r) w → Mt (⟨s, 1⟩ :: r) (c :: w)
  | plus {s r c w} : c ∈ s → Mt (⟨s, 1⟩ :: r) w → Mt (⟨s, 2⟩ :: r) (c :: w)
/-- what is left when the item has just read -/
def restI (i : Itm) (r : List Itm) : List Itm := if i.m = 0 then r else ⟨i.s, 1⟩ :: r
def starI (i : Itm) : Bool := i.m == 1
theorem mt_nil : ∀ {its : List Itm}, (∀ i ∈ its, i.m ≤ 2) → (Mt its [] ↔ ∀ i ∈ its, i.m = 1)
  | [], _ => ⟨fun _ _ h => (nomatch h), fun _ => .nil⟩
  | ⟨s, m⟩ :: r, h => by
    have ih := mt_nil (its := r) fun i hi => h i (List.mem_cons_of_mem _ hi)
    constructor
    · intro q i hi
      cases q with
      | skip q =>
        rcases List.mem_cons.mp hi with rfl | hi
        · rfl
        · exact ih.mp q i hi
    · intro q
      have e : m = 1 := q _ List.mem_cons_self
      subst e
      exact .skip (ih.mpr fun i hi => q i (List.mem_cons_of_mem _ hi))
theorem mt_cons : ∀ {its : List Itm} {c : Nat} {w : List Nat}, (∀ i ∈ its, i.m ≤ 2) → (Mt its (c :: w) ↔ ∃ (k : Nat) (i : Itm), its[k]? = some i ∧ (∀ j ∈ its.take k, j.m = 1) ∧ c ∈ i.s ∧ Mt (restI i (its.drop (k + 1))) w)
  | [], c, w, _ => ⟨fun h => (nomatch h), fun ⟨k, i, h, _⟩ => by simp at h⟩
  | ⟨s, m⟩ :: r, c, w, h => by
    have ih := mt_cons (its := r) (c := c) (w := w) fun i hi => h i (List.mem_cons_of_mem _ hi)
    have hm : m ≤ 2 := h _ List.mem_cons_self
    constructor
    · intro q
      cases q with
      | one hc q => exact ⟨0, _, rfl, fun _ h => (nomatch h), hc, q⟩
      | skip q =>
        obtain ⟨k, i, h1, h2, h3, h4⟩ := ih.mp q
        refine ⟨k + 1, i, h1, fun j hj => ?_, h3, h4⟩
        rw [List.take_succ_cons] at hj
        rcases List.mem_cons.mp hj with rfl | hj
        · rfl
        · exact h2 j hj
      | star hc q => exact ⟨0, _, rfl, fun _ h => (nomatch h), hc, q⟩
      | plus hc q => exact ⟨0, _, rfl, fun _ h => (nomatch h), hc, q⟩
    · rintro ⟨k, i, h1, h2, h3, h4⟩
      cases k with
      | zero =>
        cases h1
        unfold restI at h4
        match m, hm, h4 with
        | 0, _, h4 => exact .one h3 h4
        | 1, _, h4 => exact .star h3 h4
        | 2, _, h4 => exact .plus h3 h4
      | succ k =>
        rw [List.take_succ_cons] at h2
        have e : m = 1 := h2 _ List.mem_cons_self
        subst e
        exact .skip (ih.mpr ⟨k, i, h1, fun j hj => h2 j (List.mem_cons_of_mem _ hj), h3, h4⟩)
/-! ### places: signs, and whether they stay -/
abbrev Plc := List Nat × Bool
inductive Mp : List Plc → List Nat → Prop
  | stop {r} : Mp (([], false) :: r) []
  | skip {s r w} : Mp r w → Mp ((s, true) :: r) w
  | go {s r c w} : c ∈ s → Mp r w → Mp ((s, false) :: r) (c :: w)
  | stay {s r c w} : c ∈ s → Mp ((s, true) :: r) w → Mp ((s, true) :: r) (c :: w)
def plI (i : Itm) : List Plc := (if i.m = 1 then [] else [(i.s, false)]) ++ (if i.m = 0 then [] else [(i.s, true)])
def plB (br : List Itm) : List Plc := br.flatMap plI ++ [([], false)]
def plA (brs : List (List Itm)) : List Plc := brs.flatMap plB
def stI (brs : List (List Itm)) : List Nat := (List.range brs.length).map fun j => (plA (brs.take j)).length
theorem plI_0 (s : List Nat) : plI ⟨s, 0⟩ = [(s, false)] := rfl
theorem plI_1 (s : List Nat) : plI ⟨s, 1⟩ = [(s, true)] := rfl
theorem plI_2 (s : List Nat) : plI ⟨s, 2⟩ = [(s, false), (s, true)] := rfl
theorem mp_of_mt {rest : List Plc} {its : List Itm} {w : List Nat} (h : Mt its w) : Mp (its.flatMap plI ++ ([], false) :: rest) w := by
  induction h with
  | nil => exact .stop
  | one hc _ ih => exact .go hc ih
  | skip _ ih => exact .skip ih
  | star hc _ ih => exact .stay hc ih
  | plus hc _ ih => exact .go hc ih
theorem mt_of_mp {rest : List Plc} : ∀ (n : Nat) {its : List Itm} {w : List Nat}, its.length + w.length ≤ n → (∀ i ∈ its, i.m ≤ 2 ∧ i.s ≠ []) → Mp (its.flatMap plI ++ ([], false) :: rest) w → Mt its w
  | n, [], w, _, _, h => by
    cases h with
    | stop => exact .nil
    | go hc _ => exact nomatch hc
  | 0, i :: r, w, hn, _, _ => by simp at hn
  | n + 1, ⟨s, m⟩ :: r, w, hn, hm, h => by
    have hn : r.length + 1 + w.length ≤ n + 1 := hn
    have h2 : m ≤ 2 := (hm _ List.mem_cons_self).1
    have h3 : s ≠ [] := (hm _ List.mem_cons_self).2
    have hr : ∀ i ∈ r, i.m ≤ 2 ∧ i.s ≠ [] := fun i hi => hm i (List.mem_cons_of_mem _ hi)
    match m, h2, h with
    | 0, _, h =>
      have h : Mp ((s, false) :: (r.flatMap plI ++ ([], false) :: rest)) w := h
      generalize hq : (r.flatMap plI ++ ([], false) :: rest) = q at h
      cases h with
      | stop => exact absurd rfl h3
      | go hc h =>
        subst hq
        exact .one hc (mt_of_mp n (by simp at hn ⊢; omega) hr h)
    | 1, _, h =>
      have h : Mp ((s, true) :: (r.flatMap plI ++ ([], false) :: rest)) w := h
      generalize hq : (r.flatMap plI ++ ([], false) :: rest) = q at h
      cases h with
      | skip h =>
        subst hq
        exact .skip (mt_of_mp n (by omega) hr h)
      | stay hc h =>
        subst hq
        refine .star hc (mt_of_mp n (its := ⟨s, 1⟩ :: r) (by simp at hn ⊢; omega) (fun i hi => ?_) h)
        rcases List.mem_cons.mp hi with rfl | hi
        · exact ⟨by show 1 ≤ 2; decide, h3⟩
        · exact hr i hi
    | 2, _, h =>
      have h : Mp ((s, false) :: (s, true) :: (r.flatMap plI ++ ([], false) :: rest)) w := h
      generalize hq : (r.flatMap plI ++ ([], false) :: rest) = q at h
      cases h with
      | stop => exact absurd rfl h3
      | go hc h =>
        subst hq
        refine .plus hc (mt_of_mp n (its := ⟨s, 1⟩ :: r) (by simp at hn ⊢; omega) (fun i hi => ?_) h)
        rcases List.mem_cons.mp hi with rfl | hi
        · exact ⟨by show 1 ≤ 2; decide, h3⟩
        · exact hr i hi
end LH

namespace LH
open PySem PySem.Spec PyProof.Rows L2
/-! ### places held: links, closures, words -/
def sgP (ps : List Plc) (q : Nat) : List Nat := (ps.getD q ([], false)).1
def stP (ps : List Plc) (q : Nat) : Bool := (ps.getD q ([], false)).2
/-- q is come to from t by places that stay -/
def Lnk (ps : List Plc) (t q : Nat) : Prop := t ≤ q ∧ ∀ r, r < q → t ≤ r → stP ps r = true
instance (ps : List Plc) (t q : Nat) : Decidable (Lnk ps t q) := inferInstanceAs (Decidable (t ≤ q ∧ ∀ r, r < q → t ≤ r → stP ps r = true))
theorem Lnk.refl (ps : List Plc) (t : Nat) : Lnk ps t t := ⟨Nat.le_refl _, fun r h1 h2 => by omega⟩
theorem Lnk.step {ps : List Plc} {t q : Nat} (h : Lnk ps t q) (s : stP ps q = true) : Lnk ps t (q + 1) := by
  refine ⟨by have := h.1; omega, fun r h1 h2 => ?_⟩
  by_cases e : r = q
  · rw [e]; exact s
  · exact h.2 r (by omega) h2
def cloK (ps : List Plc) (T : List Nat) : List Nat := (List.range ps.length).filter fun q => decide (∃ t ∈ T, Lnk ps t q)
theorem mem_cloK {ps : List Plc} {T : List Nat} {q : Nat} : q ∈ cloK ps T ↔ q < ps.length ∧ ∃ t ∈ T, Lnk ps t q := by
  unfold cloK
  rw [List.mem_filter, List.mem_range, decide_eq_true_iff]
def tgtP (ps : List Plc) (q : Nat) : Nat := if stP ps q = true then q else q + 1
def nxtK (ps : List Plc) (ks : List Nat) (c : Nat) : List Nat := (ks.filter fun q => decide (c ∈ sgP ps q)).map (tgtP ps)
structure PlOk (ps : List Plc) : Prop where
  last : ∀ q, stP ps q = true → q + 1 < ps.length
  next : ∀ q, sgP ps q ≠ [] → q + 1 < ps.length
  stop : ∀ q, sgP ps q = [] → stP ps q = false
def Clo (ps : List Plc) (ks : List Nat) : Prop := ∀ q ∈ ks, q < ps.length ∧ (stP ps q = true → q + 1 ∈ ks)
theorem clo_cloK {ps : List Plc} (ok : PlOk ps) (T : List Nat) : Clo ps (cloK ps T) := fun q h => by
  obtain ⟨h1, t, h2, h3⟩ := mem_cloK.mp h
  exact ⟨h1, fun s => mem_cloK.mpr ⟨ok.last q s, t, h2, h3.step s⟩⟩
theorem drop_P {ps : List Plc} {q : Nat} (h : q < ps.length) : ps.drop q = (sgP ps q, stP ps q) :: ps.drop (q + 1) := by
  rw [List.drop_eq_getElem_cons h]
  unfold sgP stP
  rw [List.getD_eq_getElem?_getD, List.getElem?_eq_getElem h]
  rfl
theorem mp_nilK {ps : List Plc} (ok : PlOk ps) {ks : List Nat} (cl : Clo ps ks) : (∃ q ∈ ks, Mp (ps.drop q) []) ↔ ∃ q ∈ ks, sgP ps q = [] := by
  constructor
  · rintro ⟨q, hq, h⟩
    generalize hn : ps.length - q = n
    induction n generalizing q with
    | zero =>
      have := (cl q hq).1
      omega
    | succ n ih =>
      obtain ⟨l, s⟩ := cl q hq
      rw [drop_P l] at h
      generalize hs : sgP ps q = a at h
      generalize ht : stP ps q = b at h
      cases h with
      | stop => exact ⟨q, hq, hs⟩
      | skip h => exact ih (q + 1) (s ht) h (by omega)
  · rintro ⟨q, hq, h⟩
    refine ⟨q, hq, ?_⟩
    rw [drop_P (cl q hq).1, h, ok.stop q h]
    exact .stop
theorem mp_link {ps : List Plc} {t q : Nat} {w : List Nat} (h : Lnk ps t q) (l : q < ps.length) (m : Mp (ps.drop q) w) : Mp (ps.drop t) w := by
  obtain ⟨h1, h2⟩ := h
  obtain ⟨d, rfl⟩ := Nat.exists_eq_add_of_le h1
  induction d with
  | zero => exact m
  | succ d ih =>
    have s := h2 (t + d) (by omega) (by omega)
    refine ih (by omega) ?_ (by omega) (fun r a b => h2 r (by omega) b)
    rw [drop_P (by omega), s]
    exact .skip m
theorem mp_stepK {ps : List Plc} (ok : PlOk ps) {ks : List Nat} (cl : Clo ps ks) {c : Nat} {w : List Nat} : (∃ q ∈ ks, Mp (ps.drop q) (c :: w)) ↔ ∃ q ∈ cloK ps (nxtK ps ks c), Mp (ps.drop q) w := by
  constructor
  · rintro ⟨q, hq, h⟩
    generalize hn : ps.length - q = n
    induction n generalizing q with
    | zero =>
      have := (cl q hq).1
      omega
    | succ n ih =>
      obtain ⟨l, s⟩ := cl q hq
      rw [drop_P l] at h
      have key : c ∈ sgP ps q → Mp (ps.drop (tgtP ps q)) w → ∃ q ∈ cloK ps (nxtK ps ks c), Mp (ps.drop q) w := fun hc hm => by
        have hl : tgtP ps q < ps.length := by
          have := ok.next q (fun z => by rw [z] at hc; exact nomatch hc)
          unfold tgtP
          split <;> omega
        exact ⟨_, mem_cloK.mpr ⟨hl, _, List.mem_map.mpr ⟨q, List.mem_filter.mpr ⟨hq, decide_eq_true hc⟩, rfl⟩, Lnk.refl _ _⟩, hm⟩
      generalize hs : sgP ps q = a at h key
      generalize ht : stP ps q = b at h
      cases h with
      | skip h => exact ih (q + 1) (s ht) h (by omega)
      | go hc h =>
        refine key hc ?_
        unfold tgtP
        rw [if_neg (by rw [ht]; decide)]
        exact h
      | stay hc h =>
        refine key hc ?_
        unfold tgtP
        rw [if_pos ht, drop_P l, hs, ht]
        exact h
  · rintro ⟨q, hq, h⟩
    obtain ⟨l, t, ht, lk⟩ := mem_cloK.mp hq
    obtain ⟨p, hp, rfl⟩ := List.mem_map.mp ht
    obtain ⟨hp, hc⟩ := List.mem_filter.mp hp
    have hc := of_decide_eq_true hc
    have m := mp_link lk l h
    refine ⟨p, hp, ?_⟩
    unfold tgtP at m
    have e := drop_P (cl p hp).1
    cases ht : stP ps p with
    | true =>
      rw [if_pos ht, e, ht] at m
      rw [e, ht]
      exact .stay hc m
    | false =>
      rw [if_neg (by rw [ht]; decide)] at m
      rw [e, ht]
      exact .go hc m
/-- what is held behind a word -/
def heldK (ps : List Plc) (ks : List Nat) (w : List Nat) : List Nat := w.foldl (fun ks c => cloK ps (nxtK ps ks c)) ks
theorem mp_held {ps : List Plc} (ok : PlOk ps) : ∀ (w ks : List Nat), Clo ps ks → ((∃ q ∈ ks, Mp (ps.drop q) w) ↔ ∃ q ∈ heldK ps ks w, sgP ps q = [])
  | [], ks, cl => mp_nilK ok cl
  | c :: w, ks, cl => (mp_stepK ok cl).trans (mp_held ok w _ (clo_cloK ok _))
/-! ### few sets of places -/
def tgB : List Itm → Nat → List Nat
  | [], _ => []
  | i :: r, n => (if i.m = 1 then n else n + 1) :: tgB r (n + (plI i).length)
def tgA : List (List Itm) → Nat → List Nat
  | [], _ => []
  | b :: r, n => tgB b n ++ tgA r (n + (plB b).length)
def manyI (brs : List (List Itm)) : Nat := (brs.map List.length).sum
theorem tgB_len : ∀ (b : List Itm) (n : Nat), (tgB b n).length = b.length
  | [], _ => rfl
  | i :: r, n => congrArg (· + 1) (tgB_len r _)
theorem tgA_len : ∀ (brs : List (List Itm)) (n : Nat), (tgA brs n).length = manyI brs
  | [], _ => rfl
  | b :: r, n => by
    unfold tgA
    rw [List.length_append, tgB_len, tgA_len r]
    rfl
def ItOk (i : Itm) : Prop := i.m ≤ 2 ∧ i.s ≠ []
theorem tgB_mem : ∀ (b : List Itm), (∀ i ∈ b, ItOk i) → ∀ (n q : Nat) (s : List Nat) (t : Bool), (b.flatMap plI)[q]? = some (s, t) → s ≠ [] ∧ (if t = true then n + q else n + q + 1) ∈ tgB b n
  | [], _, n, q, s, t, h => by simp at h
  | ⟨s0, m⟩ :: r, ok, n, q, s, t, h => by
    have ih := tgB_mem r (fun i hi => ok i (List.mem_cons_of_mem _ hi))
    obtain ⟨h2, h3⟩ := ok _ List.mem_cons_self
    rw [List.flatMap_cons] at h
    unfold tgB
    have two : m = 0 ∨ m = 1 ∨ m = 2 := by
      have : m ≤ 2 := h2
      omega
    rcases two with rfl | rfl | rfl
    · rw [plI_0] at h
      match q, h with
      | 0, h =>
        cases h
        exact ⟨h3, List.mem_cons_self⟩
      | q + 1, h =>
        obtain ⟨a, b⟩ := ih (n + 1) q s t h
        refine ⟨a, List.mem_cons_of_mem _ ?_⟩
        show _ ∈ tgB r (n + 1)
        rw [show n + (q + 1) = n + 1 + q by omega]
        exact b
    · rw [plI_1] at h
      match q, h with
      | 0, h =>
        cases h
        exact ⟨h3, List.mem_cons_self⟩
      | q + 1, h =>
        obtain ⟨a, b⟩ := ih (n + 1) q s t h
        refine ⟨a, List.mem_cons_of_mem _ ?_⟩
        show _ ∈ tgB r (n + 1)
        rw [show n + (q + 1) = n + 1 + q by omega]
        exact b
    · rw [plI_2] at h
      match q, h with
      | 0, h =>
        cases h
        exact ⟨h3, List.mem_cons_self⟩
      | 1, h =>
        cases h
        exact ⟨h3, List.mem_cons_self⟩
      | q + 2, h =>
        obtain ⟨a, b⟩ := ih (n + 2) q s t h
        refine ⟨a, List.mem_cons_of_mem _ ?_⟩
        show _ ∈ tgB r (n + 2)
        rw [show n + (q + 2) = n + 2 + q by omega]
        exact b
theorem plB_len (b : List Itm) : (plB b).length = (b.flatMap plI).length + 1 := by
  unfold plB
  rw [List.length_append]
  rfl
/-- a place of the plan: the end of a branch, or an item's -/
theorem plA_at : ∀ (brs : List (List Itm)), (∀ b ∈ brs, ∀ i ∈ b, ItOk i) → ∀ (n q : Nat) (s : List Nat) (t : Bool), (plA brs)[q]? = some (s, t) → (s = [] ∧ t = false) ∨ (s ≠ [] ∧ (if t = true then n + q else n + q + 1) ∈ tgA brs n ∧ q + 1 < (plA brs).length)
  | [], _, n, q, s, t, h => by simp [plA] at h
  | b :: r, ok, n, q, s, t, h => by
    have e : plA (b :: r) = plB b ++ plA r := List.flatMap_cons
    rw [e] at h ⊢
    have lb := plB_len b
    by_cases hq : q < (plB b).length
    · rw [List.getElem?_append_left hq] at h
      unfold plB at h
      by_cases hq2 : q < (b.flatMap plI).length
      · rw [List.getElem?_append_left hq2] at h
        obtain ⟨a1, a2⟩ := tgB_mem b (ok b List.mem_cons_self) n q s t h
        refine .inr ⟨a1, ?_, ?_⟩
        · unfold tgA
          exact List.mem_append_left _ a2
        · rw [List.length_append]
          omega
      · have : q = (b.flatMap plI).length := by omega
        subst this
        rw [List.getElem?_append_right (Nat.le_refl _), Nat.sub_self] at h
        cases h
        exact .inl ⟨rfl, rfl⟩
    · rw [List.getElem?_append_right (by omega)] at h
      rcases plA_at r (fun b hb => ok b (List.mem_cons_of_mem _ hb)) (n + (plB b).length) _ s t h with z | ⟨z1, z2, z3⟩
      · exact .inl z
      · refine .inr ⟨z1, ?_, ?_⟩
        · unfold tgA
          refine List.mem_append_right _ ?_
          rw [show n + (plB b).length + (q - (plB b).length) = n + q by omega] at z2
          exact z2
        · rw [List.length_append]
          omega
theorem plA_get {ps : List Plc} {q : Nat} (h : q < ps.length) : ps[q]? = some (sgP ps q, stP ps q) := by
  unfold sgP stP
  rw [List.getD_eq_getElem?_getD, List.getElem?_eq_getElem h]
  rfl
theorem sgP_out {ps : List Plc} {q : Nat} (h : ¬ q < ps.length) : sgP ps q = [] ∧ stP ps q = false := by
  unfold sgP stP
  rw [List.getD_eq_getElem?_getD, List.getElem?_eq_none (by omega)]
  exact ⟨rfl, rfl⟩
theorem plOk_A {brs : List (List Itm)} (ok : ∀ b ∈ brs, ∀ i ∈ b, ItOk i) : PlOk (plA brs) := by
  refine ⟨fun q h => ?_, fun q h => ?_, fun q h => ?_⟩
  · by_cases hq : q < (plA brs).length
    · rcases plA_at brs ok 0 q _ _ (plA_get hq) with ⟨_, z⟩ | ⟨_, _, z⟩
      · rw [z] at h; exact nomatch h
      · exact z
    · rw [(sgP_out hq).2] at h; exact nomatch h
  · by_cases hq : q < (plA brs).length
    · rcases plA_at brs ok 0 q _ _ (plA_get hq) with ⟨z, _⟩ | ⟨_, _, z⟩
      · exact absurd z h
      · exact z
    · exact absurd (sgP_out hq).1 h
  · by_cases hq : q < (plA brs).length
    · rcases plA_at brs ok 0 q _ _ (plA_get hq) with ⟨_, z⟩ | ⟨z, _, _⟩
      · exact z
      · exact absurd h z
    · exact (sgP_out hq).2
theorem tgtP_mem {brs : List (List Itm)} (ok : ∀ b ∈ brs, ∀ i ∈ b, ItOk i) {q : Nat} (h : sgP (plA brs) q ≠ []) : tgtP (plA brs) q ∈ tgA brs 0 := by
  by_cases hq : q < (plA brs).length
  · rcases plA_at brs ok 0 q _ _ (plA_get hq) with ⟨z, _⟩ | ⟨_, z, _⟩
    · exact absurd z h
    · rw [Nat.zero_add] at z
      exact z
  · exact absurd (sgP_out hq).1 h
def subs {α : Type} : List α → List (List α)
  | [] => [[]]
  | a :: r => subs r ++ (subs r).map (a :: ·)
theorem subs_len {α : Type} : ∀ l : List α, (subs l).length = 2 ^ l.length
  | [] => rfl
  | a :: r => by
    show (subs r ++ (subs r).map (a :: ·)).length = _
    rw [List.length_append, List.length_map, subs_len r, List.length_cons, Nat.pow_succ]
    omega
theorem subs_filter {α : Type} (p : α → Bool) : ∀ l : List α, l.filter p ∈ subs l
  | [] => List.mem_singleton.mpr rfl
  | a :: r => by
    show _ ∈ subs r ++ (subs r).map (a :: ·)
    by_cases h : p a = true
    · rw [List.filter_cons_of_pos h]
      exact List.mem_append_right _ (List.mem_map.mpr ⟨_, subs_filter p r, rfl⟩)
    · rw [List.filter_cons_of_neg h]
      exact List.mem_append_left _ (subs_filter p r)
theorem cloK_congr {ps : List Plc} {T T' : List Nat} (h : ∀ t, t ∈ T ↔ t ∈ T') : cloK ps T = cloK ps T' := by
  unfold cloK
  refine List.filter_congr fun q _ => decide_eq_decide.mpr ?_
  constructor
  · rintro ⟨t, a, b⟩; exact ⟨t, (h t).mp a, b⟩
  · rintro ⟨t, a, b⟩; exact ⟨t, (h t).mpr a, b⟩
/-- all that can be held -/
def allK (brs : List (List Itm)) : List (List Nat) := cloK (plA brs) (stI brs) :: (subs (tgA brs 0)).map (cloK (plA brs))
theorem allK_len {brs : List (List Itm)} (h : manyI brs ≤ 8) : (allK brs).length ≤ 257 := by
  unfold allK
  rw [List.length_cons, List.length_map, subs_len, tgA_len]
  have : 2 ^ manyI brs ≤ 2 ^ 8 := Nat.pow_le_pow_right (by decide) h
  have e : 2 ^ 8 = 256 := rfl
  omega
theorem allK_next {brs : List (List Itm)} (ok : ∀ b ∈ brs, ∀ i ∈ b, ItOk i) (ks : List Nat) (c : Nat) : cloK (plA brs) (nxtK (plA brs) ks c) ∈ allK brs := by
  refine List.mem_cons_of_mem _ (List.mem_map.mpr ⟨(tgA brs 0).filter fun t => decide (t ∈ nxtK (plA brs) ks c), subs_filter _ _, cloK_congr fun t => ?_⟩)
  rw [List.mem_filter, decide_eq_true_iff]
  refine ⟨fun h => h.2, fun h => ⟨?_, h⟩⟩
  obtain ⟨q, hq, rfl⟩ := List.mem_map.mp h
  have hc := of_decide_eq_true (List.mem_filter.mp hq).2
  exact tgtP_mem ok fun z => by rw [z] at hc; exact nomatch hc
theorem allK_clo {brs : List (List Itm)} (ok : ∀ b ∈ brs, ∀ i ∈ b, ItOk i) {ks : List Nat} (h : ks ∈ allK brs) : Clo (plA brs) ks := by
  rcases List.mem_cons.mp h with rfl | h
  · exact clo_cloK (plOk_A ok) _
  · obtain ⟨T, _, rfl⟩ := List.mem_map.mp h
    exact clo_cloK (plOk_A ok) _
/-! ### words of the branches -/
theorem stI_at {brs : List (List Itm)} {q : Nat} : q ∈ stI brs ↔ ∃ j b, brs[j]? = some b ∧ q = (plA (brs.take j)).length := by
  unfold stI
  rw [List.mem_map]
  constructor
  · rintro ⟨j, hj, rfl⟩
    rw [List.mem_range] at hj
    exact ⟨j, _, List.getElem?_eq_getElem hj, rfl⟩
  · rintro ⟨j, b, h, rfl⟩
    exact ⟨j, List.mem_range.mpr (List.getElem?_eq_some_iff.mp h).1, rfl⟩
theorem plA_drop {brs : List (List Itm)} {j : Nat} {b : List Itm} (h : brs[j]? = some b) : (plA brs).drop (plA (brs.take j)).length = b.flatMap plI ++ ([], false) :: plA (brs.drop (j + 1)) := by
  obtain ⟨hj, e⟩ := List.getElem?_eq_some_iff.mp h
  have : plA brs = plA (brs.take j) ++ plA (brs.drop j) := by
    unfold plA
    rw [← List.flatMap_append, List.take_append_drop]
  rw [this, List.drop_left, List.drop_eq_getElem_cons hj, e]
  show List.flatMap plB (b :: brs.drop (j + 1)) = _
  rw [List.flatMap_cons]
  unfold plB
  rw [List.append_assoc]
  rfl
theorem plA_in {brs : List (List Itm)} {j : Nat} {b : List Itm} (h : brs[j]? = some b) : (plA (brs.take j)).length < (plA brs).length := by
  have := congrArg List.length (plA_drop h)
  rw [List.length_drop, List.length_append, List.length_cons] at this
  omega
/-- the words of the plan are those of its branches -/
theorem words_A {brs : List (List Itm)} (ok : ∀ b ∈ brs, ∀ i ∈ b, ItOk i) (w : List Nat) : (∃ q ∈ heldK (plA brs) (cloK (plA brs) (stI brs)) w, sgP (plA brs) q = []) ↔ ∃ b ∈ brs, Mt b w := by
  rw [← mp_held (plOk_A ok) w _ (clo_cloK (plOk_A ok) _)]
  constructor
  · rintro ⟨q, hq, m⟩
    obtain ⟨l, t, ht, lk⟩ := mem_cloK.mp hq
    have m := mp_link lk l m
    obtain ⟨j, b, h, rfl⟩ := stI_at.mp ht
    rw [plA_drop h] at m
    have hb := List.mem_of_getElem? h
    exact ⟨b, hb, mt_of_mp _ (Nat.le_refl _) (fun i hi => ok b hb i hi) m⟩
  · rintro ⟨b, hb, m⟩
    obtain ⟨j, h⟩ := List.mem_iff_getElem?.mp hb
    refine ⟨_, mem_cloK.mpr ⟨plA_in h, _, stI_at.mpr ⟨j, b, h, rfl⟩, Lnk.refl _ _⟩, ?_⟩
    rw [plA_drop h]
    exact mp_of_mt m
/-! ### each once -/
def ddp {α : Type} [DecidableEq α] : List α → List α
  | [] => []
  | a :: r => if a ∈ r then ddp r else a :: ddp r
theorem mem_ddp {α : Type} [DecidableEq α] {x : α} : ∀ {l : List α}, x ∈ ddp l ↔ x ∈ l
  | [] => Iff.rfl
  | a :: r => by
    unfold ddp
    have ih := mem_ddp (x := x) (l := r)
    by_cases h : a ∈ r
    · rw [if_pos h, ih, List.mem_cons]
      exact ⟨.inr, fun z => z.elim (fun e => e ▸ h) id⟩
    · rw [if_neg h, List.mem_cons, List.mem_cons, ih]
theorem ddp_nd {α : Type} [DecidableEq α] : ∀ l : List α, (ddp l).Nodup
  | [] => List.nodup_nil
  | a :: r => by
    unfold ddp
    by_cases h : a ∈ r
    · rw [if_pos h]
      exact ddp_nd r
    · rw [if_neg h]
      exact List.nodup_cons.mpr ⟨fun z => h (mem_ddp.mp z), ddp_nd r⟩
theorem ddp_len {α : Type} [DecidableEq α] : ∀ l : List α, (ddp l).length ≤ l.length
  | [] => Nat.le_refl _
  | a :: r => by
    unfold ddp
    have := ddp_len r
    by_cases h : a ∈ r
    · rw [if_pos h, List.length_cons]
      omega
    · rw [if_neg h, List.length_cons, List.length_cons]
      omega
/-! ### states by number -/
def usK (brs : List (List Itm)) : List (List Nat) := ddp (allK brs)
def uK (brs : List (List Itm)) (s : Nat) : List Nat := (usK brs).getD s []
def rK (cs : List Nat) (brs : List (List Itm)) (s : Nat) : List Nat := cs.map fun c => (usK brs).idxOf (cloK (plA brs) (nxtK (plA brs) (uK brs s) c))
def finK (brs : List (List Itm)) (s : Nat) : Bool := decide (∃ q ∈ uK brs s, sgP (plA brs) q = [])
theorem usK_len {brs : List (List Itm)} (h : manyI brs ≤ 8) : (usK brs).length ≤ 257 := Nat.le_trans (ddp_len _) (allK_len h)
theorem uK_mem {brs : List (List Itm)} {s : Nat} (h : s < (usK brs).length) : uK brs s ∈ allK brs := by
  refine mem_ddp.mp (List.mem_of_getElem? (i := s) ?_)
  unfold uK
  rw [List.getD_eq_getElem?_getD]
  show (usK brs)[s]? = _
  rw [List.getElem?_eq_getElem h]
  rfl
theorem uK_idx {brs : List (List Itm)} {ks : List Nat} (h : ks ∈ allK brs) : (usK brs).idxOf ks < (usK brs).length ∧ uK brs ((usK brs).idxOf ks) = ks := by
  have l := List.idxOf_lt_length_iff.mpr (show ks ∈ usK brs from mem_ddp.mpr h)
  refine ⟨l, ?_⟩
  unfold uK
  rw [List.getD_eq_getElem?_getD, List.getElem?_eq_getElem l, List.getElem_idxOf]
  rfl
theorem uK_inj {brs : List (List Itm)} {s t : Nat} (hs : s < (usK brs).length) (ht : t < (usK brs).length) (e : uK brs s = uK brs t) : s = t := by
  unfold uK at e
  rw [List.getD_eq_getElem?_getD, List.getD_eq_getElem?_getD, List.getElem?_eq_getElem hs, List.getElem?_eq_getElem ht] at e
  exact (List.getElem_inj (ddp_nd (allK brs))).mp e
theorem rK_run {cs : List Nat} {brs : List (List Itm)} (ok : ∀ b ∈ brs, ∀ i ∈ b, ItOk i) : ∀ (w : List Nat) (s : Nat), s < (usK brs).length → (∀ i ∈ w, i < cs.length) → uK brs (w.foldl (fun s c => (rK cs brs s).getD c 0) s) = heldK (plA brs) (uK brs s) (w.map fun i => cs.getD i 0)
  | [], s, _, _ => rfl
  | i :: w, s, hs, hw => by
    have hi := hw i List.mem_cons_self
    have st : (rK cs brs s).getD i 0 = (usK brs).idxOf (cloK (plA brs) (nxtK (plA brs) (uK brs s) (cs.getD i 0))) := by
      unfold rK
      rw [List.getD_eq_getElem?_getD, List.getElem?_map, List.getElem?_eq_getElem hi, List.getD_eq_getElem?_getD, List.getElem?_eq_getElem hi]
      rfl
    obtain ⟨a, b⟩ := uK_idx (allK_next ok (uK brs s) (cs.getD i 0))
    rw [List.foldl_cons, st, rK_run ok w _ a (fun j hj => hw j (List.mem_cons_of_mem _ hj)), b]
    rfl
end LH

namespace LH
open PySem PySem.Spec PyProof.Rows L2 NdefX LamX
/-! ### texts of items -/
abbrev tJ (cs : List Nat) : Str := ⟨cs.toArray⟩
theorem tJ_len (cs : List Nat) : (tJ cs).length = cs.length := List.size_toArray
theorem tJ_list (v : Str) : tJ v.cps.toList = v := by
  obtain ⟨a⟩ := v
  show (⟨a.toList.toArray⟩ : Str) = ⟨a⟩
  rw [Array.toArray_toList]
theorem tJ_inj {a b : List Nat} (h : tJ a = tJ b) : a = b := congrArg (fun z : Str => z.cps.toList) h
theorem tJ_app (a b : List Nat) : tJ a ++ tJ b = tJ (a ++ b) := by
  show (⟨a.toArray ++ b.toArray⟩ : Str) = ⟨(a ++ b).toArray⟩
  congr 1
  apply Array.ext'
  simp
theorem tJ_eq {a b : List Nat} : decide (V.str (tJ a) = V.str (tJ b)) = decide (a = b) := by
  by_cases h : a = b
  · rw [h]; simp
  · rw [decide_eq_false h, decide_eq_false fun e => h (tJ_inj (V.str.inj e))]
theorem vi_castJ (c : List Nat) : vi c = (c.map fun n : Nat => (n : Int)).map V.int := by
  rw [List.map_map]
  rfl
def mkI (m : Nat) : List Nat := if m = 0 then [] else if m = 1 then [42] else [43]
/-- the head of an item: a point, a letter, letters in brackets -/
inductive Hd (z : List Nat) : List Nat → List Nat → Prop
  | dot : z ≠ [] → Hd z z [46]
  | one {c} : c ∈ z → Hd z [c] [c]
  | brk {s} : s ≠ [] → s.Pairwise (· < ·) → (∀ c ∈ s, c ∈ z) → Hd z s (91 :: s ++ [93])
def ItT (z : List Nat) (i : Itm) (t : List Nat) : Prop := i.m ≤ 2 ∧ ∃ h, Hd z i.s h ∧ t = h ++ mkI i.m
inductive BrT (z : List Nat) : List Itm → List Nat → Prop
  | nil : BrT z [] []
  | cons {i r t u} : ItT z i t → BrT z r u → BrT z (i :: r) (t ++ u)
/-- small letters, of which there are few -/
def Zl (z : List Nat) : Prop := z.length ≤ 5 ∧ ∀ c ∈ z, 97 ≤ c ∧ c ≤ 122
theorem Hd.few {z s h : List Nat} (q : Hd z s h) : s ≠ [] := by
  cases q with
  | dot h => exact h
  | one => exact fun h => nomatch h
  | brk h => exact h
theorem Hd.sub {z s h : List Nat} (q : Hd z s h) : ∀ c ∈ s, c ∈ z := by
  cases q with
  | dot => exact fun _ h => h
  | one h => exact fun d hd => by rw [List.mem_singleton.mp hd]; exact h
  | brk _ _ h => exact h
theorem ItT.ok {z : List Nat} {i : Itm} {t : List Nat} (q : ItT z i t) : ItOk i := by
  obtain ⟨h, hd, q, _⟩ := q
  exact ⟨h, q.few⟩
theorem BrT.ok {z : List Nat} {b : List Itm} {t : List Nat} (q : BrT z b t) : ∀ i ∈ b, ItOk i := by
  induction q with
  | nil => exact fun _ h => nomatch h
  | cons h _ ih =>
    intro i hi
    rcases List.mem_cons.mp hi with rfl | hi
    · exact h.ok
    · exact ih i hi
theorem rise_few {s : List Nat} (h : s.Pairwise (· < ·)) (l : ∀ c ∈ s, 97 ≤ c ∧ c ≤ 122) : s.length ≤ 26 := by
  have nd : s.Nodup := h.imp fun x => Nat.ne_of_lt x
  have := len_le_of_sub nd (ys := (List.range 26).map (· + 97)) fun c hc => by
    obtain ⟨a, b⟩ := l c hc
    exact List.mem_map.mpr ⟨c - 97, List.mem_range.mpr (by omega), by omega⟩
  rwa [List.length_map, List.length_range] at this
/-- the signs of heads -/
theorem Hd.first {z s h : List Nat} (zl : Zl z) (q : Hd z s h) : ∃ c r, h = c :: r ∧ c ≠ 42 ∧ c ≠ 43 ∧ h.length ≤ 30 ∧ (∀ d ∈ h, d ≠ 124) := by
  cases q with
  | dot => exact ⟨46, [], rfl, by decide, by decide, by decide, fun d hd => by rw [List.mem_singleton.mp hd]; decide⟩
  | @one c hc =>
    have := zl.2 c hc
    exact ⟨c, [], rfl, by omega, by omega, by show 1 ≤ 30; decide, fun d hd => by rw [List.mem_singleton.mp hd]; omega⟩
  | brk h1 h2 h3 =>
    have := rise_few h2 fun c hc => zl.2 c (h3 c hc)
    refine ⟨91, s ++ [93], rfl, by decide, by decide, ?_, fun d hd => ?_⟩
    · show (s ++ [93]).length + 1 ≤ 30
      rw [List.length_append]
      show s.length + 1 + 1 ≤ 30
      omega
    · rcases List.mem_cons.mp hd with rfl | hd
      · decide
      · rcases List.mem_append.mp hd with hd | hd
        · have := zl.2 d (h3 d hd)
          omega
        · rw [List.mem_singleton.mp hd]; decide
theorem mkI_sign {m : Nat} {c : Nat} (h : c ∈ mkI m) : c = 42 ∨ c = 43 := by
  unfold mkI at h
  split at h
  · exact nomatch h
  · split at h
    · exact .inl (List.mem_singleton.mp h)
    · exact .inr (List.mem_singleton.mp h)
/-- what begins a branch's rest -/
def Fst (t : List Nat) : Prop := ∀ c r, t = c :: r → c ≠ 42 ∧ c ≠ 43
theorem BrT.first {z : List Nat} (zl : Zl z) {b : List Itm} {t : List Nat} (q : BrT z b t) : Fst t := by
  cases q with
  | nil => exact fun _ _ h => nomatch h
  | cons h _ =>
    obtain ⟨_, hd, q, rfl⟩ := h
    obtain ⟨c, r, rfl, h1, h2, _⟩ := q.first zl
    intro c' r' e
    cases e
    exact ⟨h1, h2⟩
theorem BrT.bar {z : List Nat} (zl : Zl z) {b : List Itm} {t : List Nat} (q : BrT z b t) : 124 ∉ t := by
  induction q with
  | nil => exact fun h => nomatch h
  | cons h _ ih =>
    obtain ⟨_, hd, q, rfl⟩ := h
    obtain ⟨_, _, _, _, _, _, h3⟩ := q.first zl
    intro hm
    rcases List.mem_append.mp hm with hm | hm
    · rcases List.mem_append.mp hm with hm | hm
      · exact h3 _ hm rfl
      · rcases mkI_sign hm with h | h <;> exact absurd h (by decide)
    · exact ih hm
theorem BrT.ne {z : List Nat} (zl : Zl z) {b : List Itm} {t : List Nat} (q : BrT z b t) (h : b ≠ []) : t ≠ [] := by
  cases q with
  | nil => exact absurd rfl h
  | cons g _ =>
    obtain ⟨_, hd, q, rfl⟩ := g
    obtain ⟨c, r, rfl, _⟩ := q.first zl
    exact fun h => nomatch h
theorem drop_get {b r : List Nat} {k c : Nat} (h : b.drop k = c :: r) : b[k]? = some c := by
  have := congrArg (fun l => l[0]?) h
  simpa using this
theorem drop_app {b h r : List Nat} {k : Nat} (e : b.drop k = h ++ r) : b.drop (k + h.length) = r := by
  rw [← List.drop_drop, e, List.drop_left]
section
variable {P : Program} {w : World} {K : PySem.W.Frag} {mg : Str → Option Value} {base : Heap}
theorem seven (n : Nat) (h : n ≤ 1000) : n ≤ sizeLine := Nat.le_trans h (by decide)
/-! ### mark_at -/
def sp_mark_at : Sp := fun vs H Q _ => ∃ (b r : List Nat) (k m : Nat), vs = [.str (tJ b), .int (k : Int)] ∧ b.length ≤ 1000 ∧ m ≤ 2 ∧ b.drop k = mkI m ++ r ∧ (m = 0 → Fst r) ∧ Q (.str (tJ (mkI m))) H
theorem ok_mark_at (T : TX K mg) : FnOk P w K mg base CX0 1 T.a_mark_at T.fd_mark_at ["branch", "at"] sp_mark_at := by
  refine T.F_mark_at.ok sc_mark_at (fun vs H Q E h => ?_) (fun cdv A outer s H vs Q E hr h => ?_)
  · obtain ⟨b, r, k, m, rfl, _⟩ := h
    rfl
  · obtain ⟨b, r, k, m, rfl, hb, hm, e, fr, q⟩ := h
    refine ⟨_, (pss_cons (ps_if (PW.pt (pw_and (pt_cmpR op_lt (pv 1) (pe_callB call_len_str (by rfl) T.m_len (by decide +kernel) (pa_cons (pv 0) pa_nil)) (nomark _)) (pw_and1 (pt_cmpR op_in_sign (pe_ix ix_str (pv 0) (pv 1) (fun _ _ => rfl)) pe_str (by rfl)))))
        (pss_one (ps_ret (pe_ix ix_str (pv 0) (pv 1) (fun _ _ => rfl))))
        pss_nil)
      (pss_one (ps_ret pe_str))), ?_⟩
    have bl : (tJ b).length ≤ sizeLine := by rw [tJ_len]; exact seven _ hb
    have out : ¬ k < b.length ∨ (∃ c, b[k]? = some c ∧ c ≠ 42 ∧ c ≠ 43) ∨ (∃ c, b[k]? = some c ∧ (c = 42 ∨ c = 43) ∧ mkI m = [c]) := by
      by_cases hk : k < b.length
      · have hc := List.drop_eq_getElem_cons hk
        match m, hm, e, fr with
        | 0, _, e, fr =>
          rw [hc] at e
          obtain ⟨h1, h2⟩ := fr rfl _ _ e.symm
          exact .inr (.inl ⟨_, List.getElem?_eq_getElem hk, h1, h2⟩)
        | 1, _, e, _ => exact .inr (.inr ⟨42, drop_get e, .inl rfl, rfl⟩)
        | 2, _, e, _ => exact .inr (.inr ⟨43, drop_get e, .inr rfl, rfl⟩)
      · exact .inl hk
    have nil : (¬ k < b.length ∨ (∃ c, b[k]? = some c ∧ c ≠ 42 ∧ c ≠ 43)) → mkI m = [] := fun z => by
      match m, hm, e with
      | 0, _, _ => rfl
      | 1, _, e =>
        have := drop_get e
        rcases z with z | ⟨c, z, z1, z2⟩
        · rw [List.getElem?_eq_none (by omega)] at this
          cases this
        · rw [this] at z
          exact absurd (Option.some.inj z).symm z1
      | 2, _, e =>
        have := drop_get e
        rcases z with z | ⟨c, z, z1, z2⟩
        · rw [List.getElem?_eq_none (by omega)] at this
          cases this
        · rw [this] at z
          exact absurd (Option.some.inj z).symm z2
    have s0 : (Str.ofString "" : Str) = tJ [] := by decide +kernel
    have sm : (Str.ofString "*+" : Str) = tJ [42, 43] := by decide +kernel
    refine ⟨.int (k : Int), rfl, .str (tJ b), rfl, tJ b, rfl, bl, _, _, rfl, rfl, _, rfl, ite2 (fun z => ?_) (fun z => ?_)⟩
    · have hk : k < b.length := by
        have := of_decide_eq_true z
        rw [tJ_len] at this
        omega
      have hg := List.getElem?_eq_getElem hk
      refine ⟨.str (tJ b), rfl, .int (k : Int), rfl, tJ b, (k : Int), b[k], rfl, rfl, bl, atI_nat hg, b[k], _, rfl, rfl, _, rfl, ite2 (fun y => ?_) (fun y => ?_)⟩
      · have y := of_decide_eq_true y
        rw [sm] at y
        refine ⟨.str (tJ b), rfl, .int (k : Int), rfl, tJ b, (k : Int), b[k], rfl, rfl, bl, atI_nat hg, ?_⟩
        rcases out with o | ⟨c, o, o1, o2⟩ | ⟨c, o, o1, o2⟩
        · exact absurd hk o
        · rw [hg] at o
          cases o
          rcases List.mem_cons.mp y with y | y
          · exact absurd y o1
          · exact absurd (List.mem_singleton.mp y) o2
        · rw [hg] at o
          cases o
          rw [o2] at q
          exact q
      · have y : ¬ b[k] ∈ (Str.ofString "*+" : Str).cps.toList := fun z => y (decide_eq_true z)
        rw [sm] at y
        rcases out with o | ⟨c, o, o1, o2⟩ | ⟨c, o, o1, o2⟩
        · exact absurd hk o
        · rw [nil (.inr ⟨c, o, o1, o2⟩)] at q
          rw [s0]
          exact q
        · rw [hg] at o
          cases o
          exact absurd (by rcases o1 with o1 | o1 <;> simp [o1]) y
    · have hk : ¬ k < b.length := fun h => z (decide_eq_true (by rw [tJ_len]; omega))
      rw [nil (.inl hk)] at q
      show Q (.str (Str.ofString "")) H
      rw [s0]
      exact q
end
end LH

namespace LH
open PySem PySem.Spec PyProof.Rows L2 NdefX LamX
/-! ### rises, of any text -/
theorem one_ltZ {a b : Nat} : ([a] < [b]) ↔ a < b := by
  rw [List.cons_lt_cons_iff]
  constructor
  · rintro (h | ⟨_, h⟩)
    · exact h
    · exact absurd h (by decide)
  · exact .inl
theorem rise_iff : ∀ s : List Nat, s.Pairwise (· < ·) ↔ ∀ i, (h : i + 1 < s.length) → s[i] < s[i + 1]
  | [] => ⟨fun _ i h => by simp at h, fun _ => .nil⟩
  | [a] => ⟨fun _ i h => by simp at h, fun _ => List.pairwise_singleton _ _⟩
  | a :: b :: r => by
    have ih := rise_iff (b :: r)
    constructor
    · intro h i hi
      exact List.pairwise_iff_getElem.mp h i (i + 1) (by omega) hi (by omega)
    · intro h
      have h0 : a < b := h 0 (by simp)
      have h1 : (b :: r).Pairwise (· < ·) := ih.mpr fun i hi => by
        have := h (i + 1) (by simp at hi ⊢; omega)
        simpa using this
      refine List.pairwise_cons.mpr ⟨fun c hc => ?_, h1⟩
      rcases List.mem_cons.mp hc with rfl | hc
      · exact h0
      · exact Nat.lt_trans h0 ((List.pairwise_cons.mp h1).1 c hc)
def rsB (s : List Nat) (i : Nat) : Bool := decide (s.getD i 0 < s.getD (i + 1) 0)
theorem rsB_all (s : List Nat) : ((List.range (s.length - 1)).map (rsB s)).all id = decide (s.Pairwise (· < ·)) := by
  rw [Bool.eq_iff_iff, List.all_eq_true, decide_eq_true_iff, rise_iff]
  constructor
  · intro h i hi
    have := h _ (List.mem_map.mpr ⟨i, List.mem_range.mpr (by omega), rfl⟩)
    have := of_decide_eq_true this
    rw [List.getD_eq_getElem?_getD, List.getD_eq_getElem?_getD, List.getElem?_eq_getElem (by omega), List.getElem?_eq_getElem hi] at this
    exact this
  · intro h b hb
    obtain ⟨i, hi, rfl⟩ := List.mem_map.mp hb
    have hi := List.mem_range.mp hi
    have := h i (by omega)
    refine decide_eq_true ?_
    rw [List.getD_eq_getElem?_getD, List.getD_eq_getElem?_getD, List.getElem?_eq_getElem (by omega), List.getElem?_eq_getElem (by omega)]
    exact this
section
variable {P : Program} {w : World} {K : PySem.W.Frag} {mg : Str → Option Value} {base : Heap}
def sp_risesB : Sp := fun vs H Q _ => ∃ z : Str, vs = [.str z] ∧ z.length ≤ 1000 ∧ ∀ H', Same H H' → Q (.bl (decide (z.cps.toList.Pairwise (· < ·)))) H'
theorem ok_risesB (T : TX K mg) : FnOk P w K mg base CX0 1 T.a_rises T.fd_rises ["row"] sp_risesB := by
  refine T.F_rises.ok sc_rises (fun vs H Q E h => ?_) (fun cdv A outer s H vs Q E hr h => ?_)
  · obtain ⟨z, rfl, _⟩ := h
    rfl
  · obtain ⟨z, rfl, hl, q⟩ := h
    refine ⟨_, (pss_one (ps_ret (pe_callB (cr_allK K rfl rfl) (by rfl) T.m_all (by decide +kernel) (pa_cons (pe_lc (own := [("at", 1)]) (g := gName 1) (tt := tYes) (by rfl) sc_rises.nd (pi_range1 (by rfl) T.m_range (pa_cons (pe_op op_sub (pe_callB call_len_str (by rfl) T.m_len (by decide +kernel) (pa_cons (pv 0) pa_nil)) pe_int) pa_nil)) (blkOk_by (own := [("at", 1)]) (N := N_rises) (by kernel_rfl)) (fun _ _ _ _ _ => (pg_name (i := 1) sc_rises.nd rfl (by first | exact Or.inl rfl | exact Or.inr rfl))) (fun _ _ _ _ _ => pts_nil) (fun _ _ _ _ _ => (pe_cmpR op_lt_str (pe_ix ix_str (pv 0) (pv 1) (fun _ _ => rfl)) (pe_ix ix_str (pv 0) (pe_op op_add (pv 1) pe_int) (fun _ _ => rfl)) (nomark _)))) pa_nil)))), ?_⟩
    have zl : z.length ≤ sizeLine := Nat.le_trans hl (by decide)
    have zz : z.cps.toList.length = z.length := Array.length_toList
    refine ⟨.str z, rfl, z, rfl, zl, (z.length : Int), 1, rfl, rfl, (z.length : Int) - 1, rfl, by omega, by omega, fun D nD => ?_⟩
    refine lc_range (lo := 0) (n := ((z.length : Int) - 1).toNat) (fun i H' => Same H H' ∧ H' D = some (.lst (((List.range i).map (rsB z.cps.toList)).map V.bl))) ⟨same_new nD, upd_same⟩ (fun i H1 hi hW => ?_) (fun H1 hW => ?_)
    · obtain ⟨s1, e1⟩ := hW
      have i0 : (0 : Int) + (i : Int) = (i : Int) := Int.zero_add _
      have h1 : i + 1 < z.cps.toList.length := by
        rw [zz]
        omega
      have c1 : z.cps.toList[i]? = some z.cps.toList[i] := List.getElem?_eq_getElem (by omega)
      have c2 : z.cps.toList[i + 1]? = some z.cps.toList[i + 1] := List.getElem?_eq_getElem h1
      refine ⟨rfl, lcyes ?_⟩
      refine ⟨.str z, rfl, .int (0 + (i : Int)), rfl, z, 0 + (i : Int), z.cps.toList[i], rfl, rfl, zl, by rw [i0]; exact atI_nat c1, .str z, rfl, .int (0 + (i : Int)), rfl, 0 + (i : Int), 1, rfl, rfl, z, 0 + (i : Int) + 1, z.cps.toList[i + 1], rfl, rfl, zl, by rw [i0]; exact atI_nat (j := i + 1) c2, _, _, rfl, rfl, _, e1, ?_, ?_, ?_⟩
      · rw [List.length_map, List.length_map, List.length_range]
        exact Nat.lt_of_le_of_lt (show i ≤ 1000 by omega) (by decide)
      · intro b o e
        rw [upd_ne (ne_of_none e nD)]
        exact s1 b o e
      · rw [upd_same, List.range_succ, List.map_append, List.map_append]
        have : decide ([z.cps.toList[i]] < [z.cps.toList[i + 1]]) = rsB z.cps.toList i := by
          unfold rsB
          rw [decide_eq_decide, one_ltZ, List.getD_eq_getElem?_getD, List.getD_eq_getElem?_getD, c1, c2]
          rfl
        show some (HO.lst (_ ++ [V.bl (decide ([z.cps.toList[i]] < [z.cps.toList[i + 1]]))])) = _
        rw [this]
        rfl
    · obtain ⟨s1, e1⟩ := hW
      refine ⟨D, _, rfl, .inl (.inl e1), ?_⟩
      have en : ((z.length : Int) - 1).toNat = z.cps.toList.length - 1 := by omega
      rw [en, rsB_all]
      exact q _ s1
end
end LH

namespace LH
open PySem PySem.Spec PyProof.Rows L2 NdefX LamX
theorem s_close : (Str.ofString "]" : Str) = tJ [93] := by decide +kernel
theorem s_none : (Str.ofString "" : Str) = tJ [] := by decide +kernel
theorem find_close {b s r : List Nat} {k : Nat} (hs : ∀ c ∈ s, 97 ≤ c ∧ c ≤ 122) (e : b.drop k = 91 :: s ++ [93] ++ r) : Txt.find3 (tJ b) (tJ [93]) (k : Int) = ((k + 1 + s.length : Nat) : Int) := by
  have lb : (tJ b).length = b.length := tJ_len b
  have at_ : ∀ j, b[k + j]? = (91 :: s ++ [93] ++ r)[j]? := fun j => by rw [← e, List.getElem?_drop]
  have fi : PySem.StrLaws.find3_spec (tJ b) 93 (k : Int) = PySem.StrLaws.find3_spec (tJ b) 93 (k : Int) := rfl
  have fx : fromIndex (tJ b).length (k : Int) = k := by
    unfold fromIndex
    rw [if_neg (by omega)]
    omega
  have gd : ∀ {j c : Nat}, b[k + j]? = some c → (tJ b).cps.getD (k + j) 0 = c ∧ k + j < b.length := fun {j c} h => ⟨by
    show b.toArray.getD (k + j) 0 = c
    rw [Array.getD_eq_getD_getElem?]
    show (b.toArray[k + j]?).getD 0 = c
    rw [List.getElem?_toArray, h]
    rfl, (List.getElem?_eq_some_iff.mp h).1⟩
  have end_ : b[k + (1 + s.length)]? = some 93 := by
    rw [at_, show 91 :: s ++ [93] ++ r = (91 :: s) ++ (93 :: r) by simp, List.getElem?_append_right (by rw [List.length_cons]; omega)]
    rw [show 1 + s.length - (91 :: s).length = 0 by rw [List.length_cons]; omega]
    rfl
  obtain ⟨g1, g2⟩ := gd end_
  have before : ∀ j, j < 1 + s.length → ∃ c, b[k + j]? = some c ∧ c ≠ 93 := fun j hj => by
    rw [at_, show 91 :: s ++ [93] ++ r = (91 :: s) ++ (93 :: r) by simp, List.getElem?_append_left (by rw [List.length_cons]; omega)]
    cases j with
    | zero => exact ⟨91, rfl, by decide⟩
    | succ j =>
      have hj : j < s.length := by omega
      refine ⟨s[j], List.getElem?_eq_getElem hj, ?_⟩
      have := hs _ (List.getElem_mem hj)
      omega
  rcases PySem.StrLaws.find3_spec (tJ b) 93 (k : Int) with ⟨_, h⟩ | ⟨k', h1, h2, h3, h4, h5⟩
  · rw [fx] at h
    exact absurd g1 (h _ (by omega) (by rw [lb]; exact g2))
  · rw [fx] at h2 h5
    show Txt.find3 (tJ b) ⟨#[93]⟩ (k : Int) = _
    rw [h1]
    have a1 : ¬ k' < k + (1 + s.length) := fun z => by
      obtain ⟨d, rfl⟩ := Nat.exists_eq_add_of_le h2
      obtain ⟨c, c1, c2⟩ := before d (by omega)
      rw [(gd c1).1] at h4
      exact c2 h4
    have a2 : ¬ k + (1 + s.length) < k' := fun z => h5 _ (by omega) z g1
    omega
theorem cut_mid (b : List Nat) (x y : Nat) (h : y ≤ b.length) : cutS (tJ b) (some (x : Int)) (some (y : Int)) = tJ ((b.drop x).take (y - x)) := by
  unfold cutS
  rw [tJ_len, HT.sIx_nat, HT.sIx_nat, Nat.min_eq_left h]
  show tJ ((b.drop (min x b.length)).take (y - min x b.length)) = _
  by_cases hx : x ≤ b.length
  · rw [Nat.min_eq_left hx]
  · rw [Nat.min_eq_right (by omega), List.drop_of_length_le (Nat.le_refl _), List.drop_of_length_le (show b.length ≤ x by omega), List.take_nil, List.take_nil]
/-! ### items and branches in the heap -/
def ItmsAt (H : Hp) (p : Addr) (as : List Addr) (its : List Itm) : Prop := H p = some (.lst (vr as)) ∧ as.length = its.length ∧ ∀ (i : Nat) (a : Addr) (it : Itm), as[i]? = some a → its[i]? = some it → H a = some (.tup [.str (tJ it.s), .str (tJ (mkI it.m))])
theorem ItmsAt.same {H H' : Hp} {p : Addr} {as : List Addr} {its : List Itm} (s : Same H H') (h : ItmsAt H p as its) : ItmsAt H' p as its := ⟨s _ _ h.1, h.2.1, fun i a it x y => s _ _ (h.2.2 i a it x y)⟩
theorem ItmsAt.put {H : Hp} {p D : Addr} {as : List Addr} {its : List Itm} {xs ys : List V} (h : ItmsAt H p as its) (e : H D = some (.lst xs)) (n : p ≠ D) : ItmsAt (upd H D (.lst ys)) p as its := ⟨by rw [upd_ne n]; exact h.1, h.2.1, fun i a it x y => by
  have := h.2.2 i a it x y
  rw [upd_ne (fun z => by rw [z, e] at this; cases this)]
  exact this⟩
def BrsAt (H : Hp) (p : Addr) (as : List Addr) (brs : List (List Itm)) : Prop := H p = some (.lst (vr as)) ∧ as.length = brs.length ∧ ∀ (j : Nat) (a : Addr) (br : List Itm), as[j]? = some a → brs[j]? = some br → ∃ bs, ItmsAt H a bs br
theorem BrsAt.same {H H' : Hp} {p : Addr} {as : List Addr} {brs : List (List Itm)} (s : Same H H') (h : BrsAt H p as brs) : BrsAt H' p as brs := ⟨s _ _ h.1, h.2.1, fun j a br x y => by
  obtain ⟨bs, z⟩ := h.2.2 j a br x y
  exact ⟨bs, z.same s⟩⟩
theorem snoc_at {α β : Type} {as : List α} {bs : List β} (hl : as.length = bs.length) {a : α} {b : β} {R : α → β → Prop} (h : ∀ (i : Nat) (x : α) (y : β), as[i]? = some x → bs[i]? = some y → R x y) (hab : R a b) : ∀ (i : Nat) (x : α) (y : β), (as ++ [a])[i]? = some x → (bs ++ [b])[i]? = some y → R x y := fun i x y e1 e2 => by
  by_cases hi : i < as.length
  · rw [List.getElem?_append_left hi] at e1
    rw [List.getElem?_append_left (by omega)] at e2
    exact h i x y e1 e2
  · have hi2 := (List.getElem?_eq_some_iff.mp e1).1
    rw [List.length_append] at hi2
    have hi2 : i < as.length + 1 := hi2
    obtain rfl : i = as.length := by omega
    rw [List.getElem?_append_right (Nat.le_refl _), Nat.sub_self] at e1
    rw [List.getElem?_append_right (by omega), hl, Nat.sub_self] at e2
    cases e1
    cases e2
    exact hab
theorem fit6 {n : Nat} (h : n ≤ 100000) : n < sizeLine := Nat.lt_of_le_of_lt h (by decide)
/-- a pattern's text -/
def PatT (z : List Nat) (brs : List (List Itm)) (pt : Str) : Prop := ∃ ts : List (List Nat), pt = Txt.join (tJ [124]) (ts.map tJ) ∧ brs.length = ts.length ∧ ∀ (j : Nat) (br : List Itm) (t : List Nat), brs[j]? = some br → ts[j]? = some t → br ≠ [] ∧ BrT z br t ∧ t.length ≤ 1000
theorem PatT.ok {z : List Nat} {brs : List (List Itm)} {pt : Str} (h : PatT z brs pt) : ∀ b ∈ brs, ∀ i ∈ b, ItOk i := by
  obtain ⟨ts, _, hl, ht⟩ := h
  intro b hb i hi
  obtain ⟨j, hj⟩ := List.mem_iff_getElem?.mp hb
  have := (List.getElem?_eq_some_iff.mp hj).1
  exact (ht j b _ hj (List.getElem?_eq_getElem (by omega))).2.1.ok i hi
end LH

namespace LH
open PySem PySem.Spec PyProof.Rows L2 NdefX LamX
/-! ### one reading of a text as a pattern -/
theorem brk_uniq : ∀ {s s' r r' : List Nat}, (∀ c ∈ s, c ≠ 93) → (∀ c ∈ s', c ≠ 93) → s ++ 93 :: r = s' ++ 93 :: r' → s = s' ∧ r = r'
  | [], [], _, _, _, _, e => ⟨rfl, (List.cons.inj e).2⟩
  | [], c :: s', _, _, _, h, e => absurd (List.cons.inj e).1.symm (h c List.mem_cons_self)
  | c :: s, [], _, _, h, _, e => absurd (List.cons.inj e).1 (h c List.mem_cons_self)
  | c :: s, d :: s', r, r', h, h', e => by
    obtain ⟨a, b⟩ := List.cons.inj e
    obtain ⟨x, y⟩ := brk_uniq (fun q hq => h q (List.mem_cons_of_mem _ hq)) (fun q hq => h' q (List.mem_cons_of_mem _ hq)) b
    exact ⟨by rw [a, x], y⟩
theorem brk_app (s r : List Nat) : (91 :: s ++ [93]) ++ r = 91 :: (s ++ 93 :: r) := by simp
theorem Hd.uniq {z s h s' h' r r' : List Nat} (zl : Zl z) (q : Hd z s h) (q' : Hd z s' h') (e : h ++ r = h' ++ r') : s = s' ∧ h = h' ∧ r = r' := by
  cases q with
  | dot _ =>
    cases q' with
    | dot _ => exact ⟨rfl, rfl, (List.cons.inj e).2⟩
    | @one c hc =>
      have := zl.2 c hc
      have : 46 = c := (List.cons.inj e).1
      omega
    | brk h1 h2 h3 =>
      rw [brk_app] at e
      exact absurd (List.cons.inj e).1 (by decide)
  | @one c hc =>
    have hs := zl.2 c hc
    cases q' with
    | dot _ =>
      have : c = 46 := (List.cons.inj e).1
      omega
    | one hc' =>
      obtain ⟨a, b⟩ := List.cons.inj e
      exact ⟨by rw [a], by rw [a], b⟩
    | brk h1 h2 h3 =>
      rw [brk_app] at e
      have : c = 91 := (List.cons.inj e).1
      omega
  | brk h1 h2 h3 =>
    rw [brk_app] at e
    cases q' with
    | dot _ => exact absurd (List.cons.inj e).1 (by decide)
    | @one c hc =>
      have hs := zl.2 c hc
      have : 91 = c := (List.cons.inj e).1
      omega
    | brk g1 g2 g3 =>
      rw [brk_app] at e
      obtain ⟨a, b⟩ := brk_uniq (fun c hc => by have := zl.2 c (h3 c hc); omega) (fun c hc => by have := zl.2 c (g3 c hc); omega) (List.cons.inj e).2
      exact ⟨a, by rw [a], b⟩
theorem mk_uniq {m m' : Nat} {r r' : List Nat} (h : m ≤ 2) (h' : m' ≤ 2) (f : m = 0 → Fst r) (f' : m' = 0 → Fst r') (e : mkI m ++ r = mkI m' ++ r') : m = m' ∧ r = r' := by
  have key : ∀ {m m' : Nat} {r r' : List Nat}, m ≤ 2 → m' ≤ 2 → (m = 0 → Fst r) → mkI m ++ r = mkI m' ++ r' → m = 0 → m = m' := fun {m m' r r'} h h' f e hm => by
    rcases (show m' = 0 ∨ m' = 1 ∨ m' = 2 by omega) with z | z | z
    · omega
    · rw [hm, z] at e
      exact absurd rfl ((f hm 42 r' e).1)
    · rw [hm, z] at e
      exact absurd rfl ((f hm 43 r' e).2)
  have em : m = m' := by
    by_cases hm : m = 0
    · exact key h h' f e hm
    · by_cases hm' : m' = 0
      · exact (key h' h f' e.symm hm').symm
      · rcases (show m = 1 ∨ m = 2 by omega) with z | z <;> rcases (show m' = 1 ∨ m' = 2 by omega) with y | y
        · omega
        · rw [z, y] at e
          exact absurd (List.cons.inj e).1 (by decide)
        · rw [z, y] at e
          exact absurd (List.cons.inj e).1 (by decide)
        · omega
  subst em
  exact ⟨rfl, List.append_cancel_left e⟩
/-- the mark that stands ahead -/
theorem mk_split (u : List Nat) : ∃ m r, m ≤ 2 ∧ u = mkI m ++ r ∧ (m = 0 → Fst r) := by
  match u with
  | [] => exact ⟨0, [], by decide, rfl, fun _ c r e => nomatch e⟩
  | c :: r =>
    by_cases h1 : c = 42
    · exact ⟨1, r, by decide, by rw [h1]; rfl, fun e => nomatch e⟩
    · by_cases h2 : c = 43
      · exact ⟨2, r, by decide, by rw [h2]; rfl, fun e => nomatch e⟩
      · exact ⟨0, c :: r, by decide, rfl, fun _ d q e => by obtain ⟨a, _⟩ := List.cons.inj e; rw [← a]; exact ⟨h1, h2⟩⟩
/-- what an item's text is followed by -/
theorem BrT.step {z s h r : List Nat} {m : Nat} {its : List Itm} (zl : Zl z) (hm : m ≤ 2) (hd : Hd z s h) (f : m = 0 → Fst r) (q : BrT z its (h ++ (mkI m ++ r))) : ∃ td, its = ⟨s, m⟩ :: td ∧ BrT z td r := by
  generalize hu : h ++ (mkI m ++ r) = u at q
  cases q with
  | nil =>
    obtain ⟨c, r', e, _⟩ := hd.first zl
    rw [e] at hu
    exact nomatch hu
  | @cons i td t u' hi hr =>
    obtain ⟨hm', h', hd', rfl⟩ := hi
    rw [List.append_assoc] at hu
    obtain ⟨e1, e2, e3⟩ := hd.uniq zl hd' hu
    obtain ⟨e4, e5⟩ := mk_uniq hm hm' f (fun _ => hr.first zl) e3
    refine ⟨td, ?_, e5 ▸ hr⟩
    obtain ⟨is, im⟩ := i
    cases e1
    cases e4
    rfl
theorem BrT.head {z u : List Nat} {its : List Itm} (q : BrT z its u) (h : u ≠ []) : ∃ s h r, Hd z s h ∧ u = h ++ r := by
  cases q with
  | nil => exact absurd rfl h
  | cons hi _ =>
    obtain ⟨_, h', hd, rfl⟩ := hi
    exact ⟨_, h', _, hd, List.append_assoc _ _ _⟩
theorem BrT.uniq {z : List Nat} (zl : Zl z) {its its' : List Itm} {u : List Nat} (q : BrT z its u) (q' : BrT z its' u) : its = its' := by
  induction q generalizing its' with
  | nil =>
    cases its' with
    | nil => rfl
    | cons i r => exact absurd rfl (q'.ne zl (fun h => nomatch h))
  | @cons i r t u hi hr ih =>
    obtain ⟨hm, h, hd, rfl⟩ := id hi
    rw [List.append_assoc] at q'
    obtain ⟨td, e, q2⟩ := q'.step zl hm hd (fun _ => hr.first zl)
    rw [e, ih q2]
/-- what stands in brackets at a place -/
def isHd (z s : List Nat) : Prop := s ≠ [] ∧ s.Pairwise (· < ·) ∧ ∀ c ∈ s, c ∈ z
/-- the head of what is left: told, or that there is none -/
theorem head_dec (z u : List Nat) : (∃ s h r, Hd z s h ∧ u = h ++ r) ∨ ¬ ∃ s h r, Hd z s h ∧ u = h ++ r := Classical.em _
theorem no_head_one {z : List Nat} {c : Nat} {r : List Nat} (h1 : c ≠ 46) (h2 : c ≠ 91) (h3 : c ∉ z) : ¬ ∃ s h r', Hd z s h ∧ c :: r = h ++ r' := by
  rintro ⟨s, h, r', hd, e⟩
  cases hd with
  | dot _ => exact h1 (List.cons.inj e).1
  | one hc => exact h3 ((List.cons.inj e).1 ▸ hc)
  | brk _ _ _ =>
    rw [brk_app] at e
    exact h2 (List.cons.inj e).1
theorem no_head_brk {z s r : List Nat} (zl : Zl z) (hs : ∀ c ∈ s, c ≠ 93) (h : ¬ isHd z s) : ¬ ∃ s' h r', Hd z s' h ∧ 91 :: (s ++ 93 :: r) = h ++ r' := by
  rintro ⟨s', h', r', hd, e⟩
  cases hd with
  | dot _ => exact absurd (List.cons.inj e).1 (by decide)
  | @one c hc =>
    have := zl.2 c hc
    have : 91 = c := (List.cons.inj e).1
    omega
  | brk h1 h2 h3 =>
    rw [brk_app] at e
    obtain ⟨a, b⟩ := brk_uniq hs (fun c hc => by have := zl.2 c (h3 c hc); omega) (List.cons.inj e).2
    subst a
    exact h ⟨h1, h2, h3⟩
theorem no_head_open {z r : List Nat} (zl : Zl z) (hs : ∀ c ∈ r, c ≠ 93) : ¬ ∃ s' h r', Hd z s' h ∧ 91 :: r = h ++ r' := by
  rintro ⟨s', h', r', hd, e⟩
  cases hd with
  | dot _ => exact absurd (List.cons.inj e).1 (by decide)
  | @one c hc =>
    have := zl.2 c hc
    have : 91 = c := (List.cons.inj e).1
    omega
  | brk h1 h2 h3 =>
    rw [brk_app] at e
    have e2 := (List.cons.inj e).2
    exact hs 93 (by rw [e2]; simp) rfl
/-- the first closing bracket -/
theorem close_split : ∀ r : List Nat, (∀ c ∈ r, c ≠ 93) ∨ ∃ s t, r = s ++ 93 :: t ∧ ∀ c ∈ s, c ≠ 93
  | [] => .inl fun c h => nomatch h
  | c :: r => by
    by_cases h : c = 93
    · exact .inr ⟨[], r, by rw [h]; rfl, fun c h => nomatch h⟩
    · rcases close_split r with q | ⟨s, t, e, q⟩
      · refine .inl fun d hd => ?_
        rcases List.mem_cons.mp hd with rfl | hd
        · exact h
        · exact q d hd
      · refine .inr ⟨c :: s, t, by rw [e]; rfl, fun d hd => ?_⟩
        rcases List.mem_cons.mp hd with rfl | hd
        · exact h
        · exact q d hd
end LH

namespace LH
open PySem PySem.Spec PyProof.Rows L2
/-! ### text * number, also none -/
theorem op_repZ {X : Cx} : OpR X (binaryOp .Mult) (fun x y H Q => ∃ (z : Str) (n : Int), x = .str z ∧ y = .int n ∧ 0 ≤ n ∧ n ≤ 1000 ∧ z.length ≤ 1000 ∧ Q (.str (repS z n.toNat)) H) := by
  intro pins s σ H x y v u Q I rx ry h
  obtain ⟨z, n, rfl, rfl, h1, h2, hz, q⟩ := h
  by_cases h0 : 1 ≤ n
  · exact op_repS pins s σ H _ _ v u Q I rx ry ⟨z, n, rfl, rfl, h0, h2, hz, q⟩
  · obtain rfl : n = 0 := by omega
    obtain ⟨t, rfl⟩ := rx
    obtain ⟨t', rfl⟩ := ry
    refine PySem.P.mul_str ?_ (fun h _ => absurd h (by decide)) (fun h _ => absurd h (by decide)) ?_
    · rfl
    · rw [if_pos (by decide)]
      exact ⟨by decide, .str _, H, I.tok _, ⟨_, rfl⟩, q⟩
end LH

namespace LH
open PySem PySem.Spec PyProof.Rows L2 NdefX LamX
section
variable {P : Program} {w : World} {K : PySem.W.Frag} {mg : Str → Option Value} {base : Heap}
theorem find_noneZ {b : List Nat} {k : Nat} (h : ∀ c ∈ b.drop k, c ≠ 93) : Txt.find3 (tJ b) (tJ [93]) (k : Int) = -1 := by
  have lb : (tJ b).length = b.length := tJ_len b
  have fx : fromIndex (tJ b).length (k : Int) = k := by
    unfold fromIndex
    rw [if_neg (by omega)]
    omega
  rcases PySem.StrLaws.find3_spec (tJ b) 93 (k : Int) with ⟨q, _⟩ | ⟨k', h1, h2, h3, h4, h5⟩
  · exact q
  · exfalso
    rw [fx] at h2
    rw [lb] at h3
    have hg : b[k']? = some b[k'] := List.getElem?_eq_getElem h3
    have e : b[k'] = 93 := by
      have : (tJ b).cps.getD k' 0 = b[k'] := by
        show b.toArray.getD k' 0 = _
        rw [Array.getD_eq_getD_getElem?]
        show (b.toArray[k']?).getD 0 = _
        rw [List.getElem?_toArray, hg]
        rfl
      rw [← this, h4]
    refine h b[k'] ?_ e
    have : (b.drop k)[k' - k]? = some b[k'] := by
      rw [List.getElem?_drop, show k + (k' - k) = k' by omega, hg]
    exact List.mem_of_getElem? this
theorem find_firstZ {b s r : List Nat} {k : Nat} (hs : ∀ c ∈ s, c ≠ 93) (e : b.drop k = 91 :: (s ++ 93 :: r)) : Txt.find3 (tJ b) (tJ [93]) (k : Int) = ((k + 1 + s.length : Nat) : Int) := by
  have lb : (tJ b).length = b.length := tJ_len b
  have at_ : ∀ j, b[k + j]? = (91 :: (s ++ 93 :: r))[j]? := fun j => by rw [← e, List.getElem?_drop]
  have fx : fromIndex (tJ b).length (k : Int) = k := by
    unfold fromIndex
    rw [if_neg (by omega)]
    omega
  have gd : ∀ {j c : Nat}, b[k + j]? = some c → (tJ b).cps.getD (k + j) 0 = c ∧ k + j < b.length := fun {j c} h => ⟨by
    show b.toArray.getD (k + j) 0 = c
    rw [Array.getD_eq_getD_getElem?]
    show (b.toArray[k + j]?).getD 0 = c
    rw [List.getElem?_toArray, h]
    rfl, (List.getElem?_eq_some_iff.mp h).1⟩
  have end_ : b[k + (1 + s.length)]? = some 93 := by
    rw [at_, show 91 :: (s ++ 93 :: r) = (91 :: s) ++ (93 :: r) by simp, List.getElem?_append_right (by rw [List.length_cons]; omega)]
    rw [show 1 + s.length - (91 :: s).length = 0 by rw [List.length_cons]; omega]
    rfl
  obtain ⟨g1, g2⟩ := gd end_
  have before : ∀ j, j < 1 + s.length → ∃ c, b[k + j]? = some c ∧ c ≠ 93 := fun j hj => by
    rw [at_, show 91 :: (s ++ 93 :: r) = (91 :: s) ++ (93 :: r) by simp, List.getElem?_append_left (by rw [List.length_cons]; omega)]
    cases j with
    | zero => exact ⟨91, rfl, by decide⟩
    | succ j =>
      have hj : j < s.length := by omega
      exact ⟨s[j], List.getElem?_eq_getElem hj, hs _ (List.getElem_mem hj)⟩
  rcases PySem.StrLaws.find3_spec (tJ b) 93 (k : Int) with ⟨_, h⟩ | ⟨k', h1, h2, h3, h4, h5⟩
  · rw [fx] at h
    exact absurd g1 (h _ (by omega) (by rw [lb]; exact g2))
  · rw [fx] at h2 h5
    show Txt.find3 (tJ b) ⟨#[93]⟩ (k : Int) = _
    rw [h1]
    have a1 : ¬ k' < k + (1 + s.length) := fun z => by
      obtain ⟨d, rfl⟩ := Nat.exists_eq_add_of_le h2
      obtain ⟨c, c1, c2⟩ := before d (by omega)
      rw [(gd c1).1] at h4
      exact c2 h4
    have a2 : ¬ k + (1 + s.length) < k' := fun z => h5 _ (by omega) z g1
    omega
/-! ### bracket_at, choice_at: told, or refused -/
def sp_bracketZ (A : Addr) : Sp := fun vs H Q E => ∃ (z : Str) (b u : List Nat) (k : Nat), vs = [.str z, .str (tJ b), .int (k : Int)] ∧ Zl z.cps.toList ∧ b.length ≤ 1000 ∧ b.drop k = 91 :: u ∧
  (∀ s h r H' p, Hd z.cps.toList s h → b.drop k = h ++ r → Same H H' → H p = none → H' p = some (.tup [.str (tJ s), .int ((k + h.length : Nat) : Int)]) → Q (.ref p) H') ∧
  (∀ H', Same H H' → (¬ ∃ s h r, Hd z.cps.toList s h ∧ b.drop k = h ++ r) → E (.ref A) none H')
theorem ok_bracketZ (T : TX K mg) : FnOk P w K mg base (L2.CX P w) 2 T.a_bracket_at T.fd_bracket_at ["letters", "branch", "at"] (sp_bracketZ T.A_NoPattern) := by
  have G_rises : FnOk P w K mg base CX0 1 T.a_rises T.fd_rises ["row"] sp_risesB := ok_risesB T
  refine T.F_bracket_at.okX sc_bracket_at (fun vs H Q E h => ?_) (fun cdv A outer s0 H vs Q E hr h => ?_)
  · obtain ⟨z, b, u, k, rfl, _⟩ := h
    rfl
  · obtain ⟨z, b, u, k, rfl, zl, hb, e, q, qE⟩ := h
    refine ⟨_, (pss_cons (ps_set (i := 3) sc_bracket_at.nd rfl (Or.inl rfl) (pe_bmK K rfl PySem.F.plainAttrs_str PySem.F.slot_str_find PySem.F.type_str_find mt_find3 (pv 1) (pa_cons pe_str (pa_cons (pv 2) pa_nil))))
      (pss_cons (ps_if (pt_cmpR op_lt (pv 3) pe_int (nomark _))
        (pss_one (ps_raise rfl (takes_of rfl rfl rfl rfl) (pmk_own PySem.F.excBase_ValueError T.e_NoPattern T.x_NoPattern T.k_NoPattern (raises_own T.b_NoPattern T.t_NoPattern) (by exact rfl))))
        pss_nil)
      (pss_cons (ps_set (i := 4) sc_bracket_at.nd rfl (Or.inl rfl) (pe_slice sl_str (pv 1) (po_some (pe_op op_add (pv 2) pe_int)) (po_some (pv 3))))
      (pss_cons (ps_if (PW.pt (pw_or (pt_cmpR op_eq (pv 4) pe_str (nomark _)) (pw_or (pt_not (pt_val (pe_call G_rises (hr.mono (by decide)) (by rfl) T.g_rises T.F_rises.kp T.b_rises .nil pass0 (pa_cons (pv 4) pa_nil)))) (pw_or1 (pt_not (pt_val (pe_callB (cr_allK K rfl rfl) (by rfl) T.m_all (by decide +kernel) (pa_cons (pe_lc (own := [("sign", 5)]) (g := gName 5) (tt := tYes) (by rfl) sc_bracket_at.nd (pi_str (pv 4)) (blkOk_by (own := [("sign", 5)]) (N := N_bracket_at) (by kernel_rfl)) (fun _ _ _ _ _ => (pg_name (i := 5) sc_bracket_at.nd rfl (by first | exact Or.inl rfl | exact Or.inr rfl))) (fun _ _ _ _ _ => pts_nil) (fun _ _ _ _ _ => (pe_cmpR op_in_sign (pv 5) (pv 0) (by rfl)))) pa_nil))))))))
        (pss_one (ps_raise rfl (takes_of rfl rfl rfl rfl) (pmk_own PySem.F.excBase_ValueError T.e_NoPattern T.x_NoPattern T.k_NoPattern (raises_own T.b_NoPattern T.t_NoPattern) (by exact rfl))))
        pss_nil)
      (pss_one (ps_ret (pe_tup (pa_cons (pv 4) (pa_cons (pe_op op_add (pv 3) pe_int) pa_nil))))))))), ?_⟩
    have bl : (tJ b).length ≤ sizeLine := by rw [tJ_len]; exact seven _ hb
    refine ⟨.str (tJ b), rfl, rfl, .int (k : Int), rfl, tJ b, _, (k : Int), rfl, rfl, ?_⟩
    rw [s_close]
    rcases close_split u with no | ⟨s, r, eu, ns⟩
    · have e2 : Txt.find3 (tJ b) (tJ [93]) (k : Int) = -1 := find_noneZ (fun c hc => by
        rw [e] at hc
        rcases List.mem_cons.mp hc with rfl | hc
        · decide
        · exact no c hc)
      rw [e2]
      refine ⟨.int (-1), rfl, _, _, rfl, rfl, true, rfl, iteT (qE _ (Same.refl _) ?_)⟩
      rw [e]
      exact no_head_open zl no
    subst eu
    have fc := find_firstZ ns e
    rw [fc]
    have inb : k + 1 + s.length < b.length := by
      have := congrArg List.length e
      rw [List.length_drop, List.length_cons, List.length_append, List.length_cons] at this
      omega
    have cut : cutS (tJ b) (some ((k : Int) + 1)) (some ((k + 1 + s.length : Nat) : Int)) = tJ s := by
      have := cut_mid b (k + 1) (k + 1 + s.length) (by omega)
      rw [show ((k + 1 : Nat) : Int) = (k : Int) + 1 by omega] at this
      rw [this]
      congr 2
      rw [← List.drop_drop, e, show k + 1 + s.length - (k + 1) = s.length by omega]
      show (s ++ 93 :: r).take s.length = s
      rw [List.take_left]
    have f1 : V.bl (decide (((k + 1 + s.length : Nat) : Int) < 0)) = V.bl false := by rw [decide_eq_false (by omega)]
    refine ⟨.int ((k + 1 + s.length : Nat) : Int), rfl, _, _, rfl, rfl, false, f1, iteF ?_⟩
    refine ⟨.str (tJ b), rfl, .int (k : Int), rfl, _, _, rfl, rfl, _, rfl, .int ((k + 1 + s.length : Nat) : Int), rfl, _, rfl, tJ b, rfl, bl, ?_⟩
    rw [cut]
    have no : ¬ isHd z.cps.toList s → ¬ ∃ s' h r', Hd z.cps.toList s' h ∧ b.drop k = h ++ r' := fun h => by
      rw [e]
      exact no_head_brk zl ns h
    have ls : (tJ s).length = s.length := tJ_len s
    have lsl : s.length ≤ 1000 := by omega
    refine ⟨.str (tJ s), rfl, rfl, decide (s = []), by rw [s_none, tJ_eq], ?_⟩
    by_cases hs0 : s = []
    · rw [decide_eq_true hs0]
      exact iteT (qE _ (Same.refl _) (no fun h => h.1 hs0))
    rw [decide_eq_false hs0]
    refine iteF ⟨.str (tJ s), rfl, tJ s, rfl, by rw [ls]; exact lsl, fun H1 s1 => ⟨_, rfl, ?_⟩⟩
    by_cases hrs' : ¬ s.Pairwise (· < ·)
    · have hrs := hrs'
      have : decide ((tJ s).cps.toList.Pairwise (· < ·)) = false := decide_eq_false hrs
      rw [this]
      exact iteT (qE _ s1 (no fun h => hrs h.2.1))
    have hrs := Classical.not_not.mp hrs'
    have : decide ((tJ s).cps.toList.Pairwise (· < ·)) = true := decide_eq_true hrs
    rw [this]
    refine iteF ?_
    refine ⟨.str (tJ s), rfl, tJ s, rfl, fun D nD => ?_⟩
    refine lc_it walk_str (fun i H' => Same H H' ∧ H' D = some (.lst (((s.take i).map fun c => decide (c ∈ z.cps.toList)).map V.bl))) ⟨s1.trans (same_new nD), upd_same⟩ (fun _ _ _ _ => trivial) (fun i v H2 H2' hi hW hY => ?_) (fun H2 hW => ?_)
    · obtain ⟨s2, e2⟩ := hW
      obtain ⟨rfl, c, hc, rfl⟩ := hY
      have hc' : s[i]? = some c := by rw [← hc]; exact List.getElem?_toArray.symm
      have hi' := (List.getElem?_eq_some_iff.mp hc').1
      refine ⟨rfl, lcyes ?_⟩
      refine ⟨.str (sg c), rfl, .str z, rfl, c, z, rfl, rfl, _, e2, ?_, ?_, ?_⟩
      · rw [List.length_map, List.length_map, List.length_take]
        exact fit6 (by omega)
      · intro b o e
        rw [upd_ne (ne_of_none e (s1.free nD))]
        exact s2 b o e
      · rw [upd_same, take_snoc hc', List.map_append, List.map_append]
        rfl
    · obtain ⟨s2, e2⟩ := hW
      have e3 : s.take (tJ s).cps.size = s := List.take_of_length_le (by show s.length ≤ s.toArray.size; simp)
      rw [e3] at e2
      refine ⟨D, _, rfl, .inl (.inl e2), _, rfl, ?_⟩
      by_cases hz : ∀ c ∈ s, c ∈ z.cps.toList
      · have ea : (s.map fun c => decide (c ∈ z.cps.toList)).all id = true := by
          rw [List.all_eq_true]
          intro x hx
          obtain ⟨c, hc, rfl⟩ := List.mem_map.mp hx
          exact decide_eq_true (hz c hc)
        rw [ea]
        refine iteF ?_
        refine ⟨.str (tJ s), rfl, .int ((k + 1 + s.length : Nat) : Int), rfl, _, _, rfl, rfl, by show 2 ≤ sizeLine; decide, fun p np => ?_⟩
        refine q s (91 :: s ++ [93]) r _ p (.brk hs0 hrs hz) (by rw [e, brk_app]) (s2.trans (same_new np)) (s2.free np) ?_
        rw [upd_same]
        have e5 : k + (91 :: s ++ [93]).length = k + 1 + s.length + 1 := by
          rw [List.length_append, List.length_cons, List.length_singleton]
          omega
        rw [e5]
        rfl
      · have ea : (s.map fun c => decide (c ∈ z.cps.toList)).all id = false := by
          rw [← Bool.not_eq_true, List.all_eq_true]
          intro h2
          exact hz fun c hc => of_decide_eq_true (h2 _ (List.mem_map.mpr ⟨c, hc, rfl⟩))
        rw [ea]
        exact iteT (qE _ s2 (no fun h => hz h.2.2))
def sp_choiceZ (A : Addr) : Sp := fun vs H Q E => ∃ (z : Str) (b : List Nat) (k : Nat), vs = [.str z, .str (tJ b), .int (k : Int)] ∧ Zl z.cps.toList ∧ z.cps.toList ≠ [] ∧ b.length ≤ 1000 ∧ k < b.length ∧
  (∀ s h r H' p, Hd z.cps.toList s h → b.drop k = h ++ r → Same H H' → H p = none → H' p = some (.tup [.str (tJ s), .int ((k + h.length : Nat) : Int)]) → Q (.ref p) H') ∧
  (∀ H', Same H H' → (¬ ∃ s h r, Hd z.cps.toList s h ∧ b.drop k = h ++ r) → E (.ref A) none H')
theorem ok_choiceZ (T : TX K mg) : FnOk P w K mg base (L2.CX P w) 3 T.a_choice_at T.fd_choice_at ["letters", "branch", "at"] (sp_choiceZ T.A_NoPattern) := by
  have G_bracket_at : FnOk P w K mg base (L2.CX P w) 2 T.a_bracket_at T.fd_bracket_at ["letters", "branch", "at"] (sp_bracketZ T.A_NoPattern) := ok_bracketZ T
  refine T.F_choice_at.okX sc_choice_at (fun vs H Q E h => ?_) (fun cdv A outer s0 H vs Q E hr h => ?_)
  · obtain ⟨z, b, k, rfl, _⟩ := h
    rfl
  · obtain ⟨z, b, k, rfl, zl, zn, hb, hk, q, qE⟩ := h
    refine ⟨_, (pss_cons (ps_set (i := 3) sc_choice_at.nd rfl (Or.inl rfl) (pe_ix ix_str (pv 1) (pv 2) (fun _ _ => rfl)))
      (pss_cons (ps_if (pt_cmpR op_eq (pv 3) pe_str (nomark _))
        (pss_one (ps_ret (pe_tup (pa_cons (pv 0) (pa_cons (pe_op op_add (pv 2) pe_int) pa_nil)))))
        pss_nil)
      (pss_cons (ps_if (pt_cmpR op_eq (pv 3) pe_str (nomark _))
        (pss_one (ps_ret (pe_callS G_bracket_at (hr.mono (by decide)) (by rfl) T.g_bracket_at T.F_bracket_at.kp T.b_bracket_at (fun σ => passAt (takes_of rfl rfl rfl rfl) σ) (pa_cons (pv 0) (pa_cons (pv 1) (pa_cons (pv 2) pa_nil))))))
        pss_nil)
      (pss_cons (ps_if (pt_cmpR op_notIn_sign (pv 3) (pv 0) (by rfl))
        (pss_one (ps_raise rfl (takes_of rfl rfl rfl rfl) (pmk_own PySem.F.excBase_ValueError T.e_NoPattern T.x_NoPattern T.k_NoPattern (raises_own T.b_NoPattern T.t_NoPattern) (by exact rfl))))
        pss_nil)
      (pss_one (ps_ret (pe_tup (pa_cons (pv 3) (pa_cons (pe_op op_add (pv 2) pe_int) pa_nil))))))))), ?_⟩
    have bl : (tJ b).length ≤ sizeLine := by rw [tJ_len]; exact seven _ hb
    have sd : (Str.ofString "." : Str) = tJ [46] := by decide +kernel
    have so : (Str.ofString "[" : Str) = tJ [91] := by decide +kernel
    have e := List.drop_eq_getElem_cons hk
    have gc : b[k]? = some b[k] := List.getElem?_eq_getElem hk
    generalize b[k] = c at e gc
    generalize b.drop (k + 1) = u at e
    refine ⟨.str (tJ b), rfl, .int (k : Int), rfl, tJ b, (k : Int), c, rfl, rfl, bl, atI_nat gc, ?_⟩
    have t1 : V.bl (decide (V.str (tJ [c]) = V.str (Str.ofString "."))) = V.bl (decide (c = 46)) := by rw [sd, tJ_eq]; simp
    have t2 : V.bl (decide (V.str (tJ [c]) = V.str (Str.ofString "["))) = V.bl (decide (c = 91)) := by rw [so, tJ_eq]; simp
    refine ⟨.str (tJ [c]), rfl, rfl, _, t1, ?_⟩
    by_cases h1 : c = 46
    · rw [decide_eq_true h1]
      refine iteT ⟨.str z, rfl, .int (k : Int), rfl, _, _, rfl, rfl, by show 2 ≤ sizeLine; decide, fun p np => ?_⟩
      refine q z.cps.toList [46] u _ p (.dot zn) (by rw [e, h1]; rfl) (same_new np) np ?_
      rw [tJ_list z, upd_same]
      rfl
    rw [decide_eq_false h1]
    refine iteF ⟨.str (tJ [c]), rfl, rfl, _, t2, ?_⟩
    by_cases h2 : c = 91
    · rw [decide_eq_true h2]
      refine iteT ⟨.str z, rfl, .str (tJ b), rfl, .int (k : Int), rfl, z, b, u, k, rfl, zl, hb, by rw [e, h2], q, qE⟩
    rw [decide_eq_false h2]
    refine iteF ⟨.str (tJ [c]), rfl, .str z, rfl, c, z, rfl, rfl, !decide (c ∈ z.cps.toList), rfl, ?_⟩
    by_cases h3 : c ∈ z.cps.toList
    · rw [decide_eq_true h3]
      refine iteF ⟨.str (tJ [c]), rfl, .int (k : Int), rfl, _, _, rfl, rfl, by show 2 ≤ sizeLine; decide, fun p np => ?_⟩
      exact q [c] [c] u _ p (.one h3) e (same_new np) np upd_same
    · rw [decide_eq_false h3]
      refine iteT (qE _ (Same.refl _) ?_)
      rw [e]
      exact no_head_one h1 h2 h3
end
end LH

namespace LH
open PySem PySem.Spec PyProof.Rows L2
/-! ### a comprehension whose step may raise -/
theorem ff_turn {base h h' : Heap} : ∀ {l : List Env}, h.FunFrames base l → (∀ L ∈ frs l, h'.get? L = h.get? L) → h'.FunFrames base l
  | [], _, _ => trivial
  | env :: l, x, k => by
    obtain ⟨hk, ⟨L, o, hf, bn, ho, hd⟩, hr⟩ := x
    exact ⟨hk, ⟨L, o, hf, bn, by rw [k L (List.mem_filterMap.mpr ⟨env, List.mem_cons_self, hf⟩)]; exact ho, hd⟩, ff_turn hr fun b hb => by
      obtain ⟨e, he, q⟩ := List.mem_filterMap.mp hb
      exact k b (List.mem_filterMap.mpr ⟨e, List.mem_cons_of_mem _ he, q⟩)⟩
theorem ff_base {base B h : Heap} : ∀ {l : List Env}, h.FunFrames base l → (∀ b, base.get? b = none → B.get? b = none) → h.FunFrames B l
  | [], _, _ => trivial
  | _ :: _, ⟨hk, ⟨L, o, hf, bn, ho, hd⟩, hr⟩, k => ⟨hk, ⟨L, o, hf, k L bn, ho, hd⟩, ff_base hr k⟩
theorem noteFrame_of {e : Value} {env env' : Env} (h : env.frame = env'.frame) : noteFrame e env = noteFrame e env' := by
  unfold noteFrame PySem.frameOf
  rw [h]
/-- the block raised: its locals at C; E what a call of the step let out -/
theorem blk_raised {X : Cx} {Wout : WX} {pins pB : List (Addr × Obj)} {σ σB : L2.St} {H0 HB : Hp} {s3 sB : Shared} {scope : Scope} {ce : Env} {fp : List Addr} {C : Addr} {u : Value} {s' : Shared} {E₁ : Value → Shared → Prop} {Q : Unit → Shared → Prop}
    (hs : X.stack = X.env :: X.outer) (hf : X.env.frame = some X.env.locals) (tk : Takes X Wout) (I3 : Inv X pins σ H0 s3)
    (f3 : ∀ b ∈ fp, FpOk X pins H0 b) (cL : ce.locals = C) (hC : s3.heap.objs.size ≤ C) (cF : ce.frame = X.env.frame) (IB : Inv (X.blk s3 H0 scope ce fp) pB σB HB sB)
    (cx : CX X.prog X.w X.stack HB sB (fun cls d H' => Wout cls d σ H') u s')
    (q : ∀ s4, (∃ m, s4.heap.Ns C m ∧ ∀ h', Heap.SameBut C s4.heap h' → ∀ cenv : Env, cenv.frame = X.env.frame → wpAny (model X.prog X.w) X.A (passOn "comprehension.variables-let-go" u cenv : Sem Value) (fun _ _ => False) X.xe { s4 with heap := h' }) → Q () s4) :
    wpAny (model X.prog X.w) X.A (noteFrame u ce) Q E₁ s' := by
  obtain ⟨a, B, H', cls, d, rfl, fl, hokB, ub, na, os, ag, hE⟩ := cx
  rw [noteFrame_of cF]
  have J : Inv X pins σ HB sB := I3.call' (ch := fp) IB.os IB.base IB.hok IB.bare fun b hb => ⟨(f3 b hb).2.2.2.1, (f3 b hb).2.1, (f3 b hb).2.2.2.2.1, (f3 b hb).2.2.2.2.2⟩
  have nC : HB C = none := by
    have z : HB ce.locals = none := IB.free
    rw [cL] at z
    exact z
  obtain ⟨m, hn, -⟩ := IB.loc
  have hn : sB.heap.Ns ce.locals m := hn
  rw [cL] at hn
  have fC := I3.fpOk (H' := HB) hC nC
  have cS : C ∉ frs X.stack := fun z => (List.mem_cons.mp (I3.stkSub C z)).elim (fun e => fC.2.1 e) fun e => fC.2.2.1 e
  obtain ⟨oC, es, ep, hoC, dC, restC⟩ := id hn
  have bC : B.get? C = some oC := ub.keep C oC hoC nC cS
  have nC' : H' C = none := ub.free C oC hoC nC
  have hfr : X.A.frames = some (X.env :: X.outer) := by rw [I3.ok.frames, hs]
  rw [hs] at fl
  refine HandSPX.looks_onZ Zc.steady hfr hf fl fun h1 hh1 up1 => q _ ⟨m, up1.ns ⟨oC, es, ep, fl.1 _ _ bC, dC, restC⟩, fun h2 sb2 cenv hcf => ?_⟩
  obtain ⟨st1, aB, ff1, oe, vs, T, oT, ts, he, hz, hd, hv1, bT, hTe, hT, hdT, h3⟩ := hh1
  have cC1 : h1.get? C = some oC := st1 _ _ bC
  have aC : a ≠ C := fun e => by rw [e, bC] at aB; cases aB
  have tC : T ≠ C := fun e => by rw [e, bC] at bT; cases bT
  -- the ground without the block's locals
  obtain ⟨B', b1, b2⟩ := restrict B fun b => decide (b ≠ C)
  have b1 : ∀ b, b ≠ C → B'.get? b = B.get? b := fun b hb => b1 b (decide_eq_true hb)
  have b2 : B'.get? C = none := b2 C (decide_eq_false fun h => h rfl)
  have sB' : ∀ b o, B'.get? b = some o → b ≠ C ∧ B.get? b = some o := fun b o e => by
    have ne : b ≠ C := fun z => by rw [z, b2] at e; cases e
    exact ⟨ne, by rw [← b1 b ne]; exact e⟩
  have st2 : B'.StaysIn h2 := fun b o e => by
    obtain ⟨ne, e2⟩ := sB' b o e
    rw [sb2.2 b ne]
    exact st1 b o e2
  have noneB : ∀ b, B.get? b = none → B'.get? b = none := fun b e => by
    cases z : B'.get? b with
    | none => rfl
    | some o =>
      have := (sB' b o z).2
      rw [e] at this
      cases this
  have he2 : h2.get? a = some oe := by rw [sb2.2 a aC]; exact he
  have hT2 : h2.get? T = some oT := by rw [sb2.2 T tC]; exact hT
  rw [hs] at cS
  have ff2 : h2.FunFrames B' (X.env :: X.outer) := ff_base (ff_turn ff1 fun L hL => sb2.2 L fun e => cS (by rw [← e]; exact hL)) noneB
  have tr2 : HandSPX.TracedZ h2 B' a (Zc cls d) (rawInt X.env.locals) := ⟨oe, vs, T, oT, ts, he2, hz, hd, hv1, noneB T bT, hTe, hT2, hdT, h3⟩
  unfold PySem.passOn
  refine wpAny_bind (wpAny_field (s := { s' with heap := h2 }) he2 hd hv1 ?_)
  rw [if_neg (show ¬ ((Value.ref T == Value.none) = true) from by simp)]
  have fin : wpAny (model X.prog X.w) X.A (setFlight (.ref a) cenv.frame) (fun _ s4 => wpAny (model X.prog X.w) X.A (throw (.ref a) : Sem Value) (fun _ _ => False) X.xe s4) X.xe { s' with heap := h2 } := by
    rw [hcf, hf]
    refine HandSPX.setFlight_anyZ (fr := some X.env.locals) (s := { s' with heap := h2 }) st2 ff2 tr2 fun h4 st4 ff4 tr4 up4 => wpAny_throw (tk _ _ ?_)
    obtain ⟨G, g1, g2⟩ := restrict h4 fun b => (B'.get? b).isSome || decide (b ∈ frs X.stack)
    have gB : ∀ b o, B'.get? b = some o → G.get? b = some o := fun b o e => by
      rw [g1 b (by simp [e])]
      exact st4 b o e
    have gF : ∀ b, b ∈ frs X.stack → G.get? b = h4.get? b := fun b hb => g1 b (by simp [hb])
    have og : ∀ b o, G.get? b = some o → h4.get? b = some o ∧ ((B'.get? b).isSome = true ∨ b ∈ frs X.stack) := fun b o e => by
      cases q : ((B'.get? b).isSome || decide (b ∈ frs X.stack)) with
      | false => rw [g2 b q] at e; cases e
      | true =>
        rw [g1 b q] at e
        exact ⟨e, by simpa [Bool.or_eq_true] using q⟩
    have slots : ∀ b, b ∈ frs X.stack → ∀ o, s'.heap.get? b = some o → (∀ vs, o.data ≠ .fields vs) → ∃ sl, h4.get? b = some { o with slots := sl } := fun b hb o e nf => by
      obtain ⟨sl, e1⟩ := up1 b o e nf
      have bC' : b ≠ C := fun z => cS (by rw [← z, ← hs]; exact hb)
      obtain ⟨sl2, e2⟩ := up4 b _ ((sb2.2 b bC').trans e1) nf
      exact ⟨sl2, e2⟩
    have frNf : ∀ b, b ∈ frs X.stack → ∀ o, sB.heap.get? b = some o → ∃ sl, h4.get? b = some { o with slots := sl } := fun b hb o e => by
      obtain ⟨_, o', e', nf⟩ := J.stack.mem hb
      rw [e] at e'
      cases e'
      obtain ⟨sl, e1⟩ := ub.slot b o e hb
      obtain ⟨sl2, e2⟩ := slots b hb _ e1 nf
      exact ⟨sl2, e2⟩
    refine ⟨a, B', { sB with heap := G, gens := s'.gens, drawn := s'.drawn, toks := s'.toks }, pins, σ, H', cls, d, rfl, ?_, fun b o e hb => ?_, Heap.UpToSlots.of_keeps fun b o e => (og b o e).1, .inr (.inr ⟨st4, noneB a aB, by rw [hs]; exact ff4, tr4⟩), na, os, ag, hE⟩
    · refine J.call (ch := [C]) ⟨fun b o e n hb hx => ?_, fun b o e n hb _ => ?_, fun b o e n _ => ub.free b o e n, fun b o e hx => ?_, ub.tups, ub.frzs, ub.tbls⟩ ?_ ag fun b hb => ?_
      · have ne : b ≠ C := fun z => hx (by rw [z]; exact List.mem_singleton.mpr rfl)
        exact gB b o (by rw [b1 b ne]; exact ub.keep b o e n hb)
      · obtain ⟨sl, q⟩ := frNf b hb o e
        exact ⟨sl, by rw [gF b hb]; exact q⟩
      · have ne : b ≠ C := fun z => hx (by rw [z]; exact List.mem_singleton.mpr rfl)
        by_cases hb : b ∈ frs X.stack
        · obtain ⟨sl, q⟩ := frNf b hb o e
          exact ⟨_, by rw [gF b hb]; exact q⟩
        · obtain ⟨o', q⟩ := ub.there b o e hb
          exact ⟨o', gB b o' (by rw [b1 b ne]; exact q)⟩
      · intro b o e
        refine (hokB b o e).stay (fun c u hc r => gB c u ?_) (fun _ r => r) fun _ _ r => r
        have ne : c ≠ C := fun z => by
          rcases hc with hc | hc
          · rw [← hc, z, nC'] at e
            cases e
          · rw [z, nC'] at hc
            cases hc
        rw [b1 c ne]
        exact r
      · obtain rfl := List.mem_singleton.mp hb
        exact ⟨fC.2.2.2.1, fC.2.1, fC.2.2.2.2.1, fC.2.2.2.2.2⟩
    · obtain ⟨e', h⟩ := og b o e
      rcases h with h | h
      · obtain ⟨o', q⟩ := Option.isSome_iff_exists.mp h
        have z := st4 b o' q
        rw [e'] at z
        cases z
        exact q
      · exact absurd h hb
  first
    | exact wpAny_bind (wpAny_pure (wpAny_bind fin))
    | exact wpAny_bind fin
/-- how a comprehension's block may end: C its locals, fr its frame -/
def blkEnd (M : Model) (A : Around) (E : Value → Shared → Prop) (Q : Value → Shared → Prop) (acc : Value) (C : Addr) (fr : Option Addr) (r : Result) (s' : Shared) : Prop :=
  match r with
  | .ok _ => ∃ m, s'.heap.Ns C m ∧ ∀ h', Heap.SameBut C s'.heap h' → Q acc { s' with heap := h' }
  | .error u => ∃ m, s'.heap.Ns C m ∧ ∀ h', Heap.SameBut C s'.heap h' → ∀ cenv : Env, cenv.frame = fr → wpAny M A (passOn "comprehension.variables-let-go" u cenv : Sem Value) (fun _ _ => False) E { s' with heap := h' }
/-- a comprehension's value, or what its block lets out, with the frame told -/
theorem comp_reads {M : Model} {A : Around} {E : Value → Shared → Prop} {s : Shared} {env : Env} {e : Expr} {scope : Scope} {pos : Pos} {newAcc first : Sem Value} {g : Comprehension} {gs : List Comprehension} {cl : List (Str × Addr)} {Q : Value → Shared → Prop}
    (hcl : clausesOf e = g :: gs) (hs : ∀ x, foldedSetIterable g.iter env x = pure x) (hclos : closureFor scope env = pure cl) (hkind : scope.kind = .function) (hnames : ∀ x ∈ scope.names, x.2 = .local → scope.names.lookup x.1 = some .local)
    (h : wpAny M A first (fun x s1 => wpAny M A (pyIter x) (fun it s2 => wpAny M A newAcc (fun acc s3 => wpAny M A (newFunctionEnv scope env.globals cl [] env.qual none .none (some env)) (fun cenv s4 =>
      cenv.frame = env.frame ∧ codeAny M A (.compStart e 0 it acc { cenv with scope := relabel scope env }) (blkEnd M A E Q acc cenv.locals env.frame) s4) E s3) E s2) E s1) E s) :
    wpAny M A (comprehension e scope env pos newAcc false first none) Q E s := by
  unfold comprehension
  rw [hclos, hcl]
  refine wpAny_bind (thn h fun x s1 h1 => wpAny_bind (wpAny_standAt (wpAny_bind (wpAny_of_eq (hs x) (wpAny_bind (wpAny_holding (thn h1 fun it s2 h2 => ?_)))))))
  refine wpAny_standIf (wpAny_bind (thn h2 fun acc s3 h3 => wpAny_bind (wpAny_pure (wpAny_bind (thn h3 fun cenv s4 h4 => ?_)))))
  obtain ⟨fr, h4⟩ := h4
  have locs : ∀ x ∈ (scope.names.filter fun x => (x.2 == .local || x.2 == .cell) && x.1 != (".0" : Str)).reverse, x.2 = .local → Env.kindOf { cenv with scope := relabel scope env } x.1 = some .local := fun x hx hl =>
    lookup_relabel_local (hnames x (List.mem_filter.mp (List.mem_reverse.mp hx)).1 hl)
  dsimp only
  refine wpAny_holding (wpAny_bind (wpAny_attempt (wpAny_holding (wpAny_run (codeAny_mono h4 fun r s5 hr => ?_)))))
  cases r with
  | ok f =>
    obtain ⟨m, hn, hq⟩ := hr
    exact wpAny_bind (wpAny_holding (wpAny_comp_letGo (cenv := { cenv with scope := relabel scope env }) hkind _ s5 m locs hn fun h' _ _ sb => wpAny_pure (hq h' sb)))
  | error u =>
    obtain ⟨m, hn, hq⟩ := hr
    exact wpAny_bind (wpAny_holding (wpAny_comp_letGo (cenv := { cenv with scope := relabel scope env }) hkind _ s5 m locs hn fun h' _ _ sb => wpAny_mono (hq h' sb { cenv with scope := relabel scope env } fr) (fun _ _ z => z.elim) fun _ _ z => z))
/-- [elt for target in iter if ..] whose elt may raise: Wout takes what it raises, with the slots as they are outside -/
def tLcE (Wout : WX) (wi : TI) (g : TG) (tt : TT) (te : WX → TE) (vs : List Nat) : TE := fun σ H Q => tLc wi g tt (te fun cls d _ H' => Wout cls d σ H') vs σ H Q
section
variable {X : Cx}
theorem pe_lcE {elt tg iter : Expr} {ifs : List Expr} {scope : Scope} {own : List (Str × Nat)} {pos : Pos} {wi : TI} {g : TG} {tt : TT} {te : WX → TE} {Wout : WX} (hst : X.stack = X.env :: X.outer) (hf : X.env.frame = some X.env.locals) (tk : Takes X Wout)
    (hc : X.calm = true) (hN : X.N.Nodup) (hi : PI X tg iter wi) (ok : BlkOk X.N X.env.scope scope own)
    (hg : ∀ (s : Shared) (H : Hp) (C : Addr) (cl : List (Str × Addr)) (fp : List Addr), PG (X.blk s H scope (compEnvC scope cl C X.env) fp) tg g) (ht : ∀ (s : Shared) (H : Hp) (C : Addr) (cl : List (Str × Addr)) (fp : List Addr), PTs (X.blk s H scope (compEnvC scope cl C X.env) fp) ifs tt)
    (he : ∀ (s : Shared) (H : Hp) (C : Addr) (cl : List (Str × Addr)) (fp : List Addr) (W : WX) (pn : List (Addr × Obj)) (xe : Value → Shared → Prop), (∀ σ, PassesAt (L2.CX X.prog X.w) ((X.blk s H scope (compEnvC scope cl C X.env) fp).tr pn xe) σ (WE W σ)) →
      PE ((X.blk s H scope (compEnvC scope cl C X.env) fp).tr pn xe) elt (te W))
    (hs : ∀ x, foldedSetIterable iter X.env x = pure x := by intro _; rfl) : PE X (.ListComp elt [⟨tg, iter, ifs, 0⟩] scope pos) (tLcE Wout wi g tt te (own.map (·.2))) := by
  refine ⟨fun pins s σ H Q I h => ?_⟩
  rw [eval_ListComp]
  have hfree : ∀ y ∈ scope.names, y.2 = .free → ∃ c, X.env.cells.lookup y.1 = some c := fun y hy e => I.ok.has _ (ok.free y hy e)
  refine comp_reads rfl hs (closure_ok hfree) ok.kind (fun y hy e => by rw [ok.uniq y hy, e]) (thn (hi.run pins s σ H _ I h) fun xv s1 hx => thn hx fun itv s2 h2 => ?_)
  obtain ⟨it, fp, tn, J, H2, e, I2, T, st2, f2, q⟩ := h2
  subst e
  refine wpAny_newObj_type (newEnv_comp ⟨rfl, ?_⟩) (by show 0 ≤ sizeLine; decide)
  generalize hD : s2.heap.objs.size = D
  have hDn : H2 D = none := I2.hok.fresh (Nat.le_of_eq hD)
  obtain ⟨W, ⟨m0, w0⟩, turn⟩ := q D hDn
  generalize hs3 : ({ s2 with heap := s2.heap.push { cls := .type "list", data := .seq ([] : List Value).toArray } } : Shared) = s3
  have h3 : s3.heap = s2.heap.push { cls := .type "list", data := .seq ([] : List Value).toArray } := by rw [← hs3]
  have I3 : Inv X pins σ (upd H2 D (.lst [])) s3 := by
    rw [← hs3]
    refine I2.laid (t' := s2.toks) (fun b o e => Heap.get?_push_of_some _ e) (Nat.le_of_eq hD) ⟨Nat.zero_le _, [], 0, .nil, ?_⟩
    rw [← hD]
    exact Heap.get?_push_size _ rfl
  have f3 : ∀ b ∈ fp, FpOk X pins (upd H2 D (.lst [])) b ∧ b < s3.heap.objs.size := fun b hb => by
    obtain ⟨o, e, _⟩ := T.obj _ _ st2 b hb
    have hlt := Heap.lt_size e
    refine ⟨⟨?_, (f2 b hb).2⟩, by rw [h3, Heap.size_push]; exact Nat.lt_succ_of_lt hlt⟩
    rw [upd_ne (by rw [← hD]; exact Nat.ne_of_lt hlt)]
    exact (f2 b hb).1
  have st3 : tn 0 s3.heap := T.keep _ _ _ st2 fun b _ o e => by rw [h3]; exact Heap.get?_push_of_some _ e
  have I4 := block_start I3 ok hN f3
  have pg := hg s3 (upd H2 D (.lst [])) s3.heap.objs.size (cellsFrom (s3.heap.objs.size + 1) scope.names (cloFrom X.env.cells scope.names [])) fp
  have pt := ht s3 (upd H2 D (.lst [])) s3.heap.objs.size (cellsFrom (s3.heap.objs.size + 1) scope.names (cloFrom X.env.cells scope.names [])) fp
  have pe := he s3 (upd H2 D (.lst [])) s3.heap.objs.size (cellsFrom (s3.heap.objs.size + 1) scope.names (cloFrom X.env.cells scope.names [])) fp
  show codeAny _ _ (.compStart (.ListComp elt [⟨tg, iter, ifs, 0⟩] scope pos) 0 (.ref it) (.ref D) (compEnvC scope (cellsFrom (s3.heap.objs.size + 1) scope.names (cloFrom X.env.cells scope.names [])) s3.heap.objs.size X.env)) (blkEnd (model X.prog X.w) X.A X.xe _ (.ref D) s3.heap.objs.size X.env.frame) { s3 with heap := pushCells (s3.heap.push { cls := .type "dict", data := .dict #[] }) scope.names }
  have nfp : ∀ b ∈ fp, (upd H2 D (.lst [])) b = none := fun b hb => (f3 b hb).1.1
  generalize hce : compEnvC scope (cellsFrom (s3.heap.objs.size + 1) scope.names (cloFrom X.env.cells scope.names [])) s3.heap.objs.size X.env = ce at I4 pg pt pe ⊢
  have cL : ce.locals = s3.heap.objs.size := by subst hce; rfl
  have cF : ce.frame = X.env.frame := by subst hce; rfl
  generalize hH3 : upd H2 D (.lst []) = H3 at I3 I4 pg pt pe w0 nfp f3
  generalize hs4 : ({ s3 with heap := pushCells (s3.heap.push { cls := .type "dict", data := .dict #[] }) scope.names } : Shared) = s4 at I4 ⊢
  have st4 : tn 0 s4.heap := T.keep _ _ _ st3 fun b _ o e => by rw [← hs4]; exact pushCells_keeps _ _ _ _ (Heap.get?_push_of_some _ e)
  have stat : ∀ {σ' : L2.St} {H' : Hp} {s' : Shared}, Inv (X.blk s3 H3 scope ce fp) [] σ' H' s' → (∀ b ∈ fp, H' b = none) → ∀ b ∈ fp, FpOk (X.blk s3 H3 scope ce fp) [] H' b := fun {σ' H' s'} I' hn b hb =>
    ⟨hn b hb, (I'.ok.exf b hb).1, I'.ok.exfs b hb, .inl hb, fun x c e => (I'.ok.exf b hb).2 x c e, fun p hp => absurd (show p ∈ ([] : List (Addr × Obj)) ++ [] from hp) (by simp)⟩
  have loop : codeAny (model X.prog X.w) X.A (.compLoop (.ListComp elt [⟨tg, iter, ifs, 0⟩] scope pos) 0 (.ref it) (.ref D) ce) (blkEnd (model X.prog X.w) X.A X.xe (EP X pins σ Q) (.ref D) s3.heap.objs.size X.env.frame) s4 := by
    refine compLoop_any (fun n s' => ∃ i H', Inv (X.blk s3 H3 scope ce fp) [] (wipe σ (own.map (·.2))) H' s' ∧ tn i s'.heap ∧ (∀ b ∈ fp, H' b = none) ∧ W i n H') ?_ m0 ⟨0, H3, I4, st4, nfp, w0⟩
    rintro n s5 ⟨i, H5, I5, st5, n5, w5⟩
    rcases turn i n H5 w5 with ⟨stop, qq⟩ | ⟨go, Nx, hNx, step⟩
    · refine thnF (T.done (X.blk s3 H3 scope ce fp) rfl rfl rfl hc i [] s5 _ H5 (fun _ _ => False) I5 (stat I5 n5) st5 stop) fun r s6 ⟨hr, I6⟩ => ?_
      subst hr
      have I7 : Inv X pins σ H5 s6 := I3.call' (ch := fp) I6.os I6.base I6.hok I6.bare fun b hb => ⟨(f3 b hb).1.2.2.2.1, (f3 b hb).1.2.1, (f3 b hb).1.2.2.2.2.1, (f3 b hb).1.2.2.2.2.2⟩
      have nC : H5 s3.heap.objs.size = none := by
        have z : H5 ce.locals = none := I6.free
        rw [cL] at z
        exact z
      obtain ⟨m, hn, _⟩ := I6.loc
      have hn : s6.heap.Ns ce.locals m := hn
      rw [cL] at hn
      obtain ⟨f0, f1, f2, f3, f4, f5⟩ := I3.fpOk (Nat.le_refl _) nC
      exact ⟨m, hn, fun h' sb => ⟨.ref D, H5, I7.turned (t' := s6.toks) (fun b o hb e => (sb.2 b hb).trans e) f0 f1 f3 f4 f5, rfl, qq⟩⟩
    · refine thnF (T.item (X.blk s3 H3 scope ce fp) rfl rfl rfl hc i [] s5 _ H5 (fun _ _ => False) I5 (stat I5 n5) st5 go) fun r s6 ⟨u, hr, h6⟩ => ?_
      subst hr
      refine thnF h6 fun _ s7 ⟨x, H7, I7, r7, y7, st7, n7⟩ => ?_
      have I7' := I7.pinned (stat I7 n7) (T.obj _ _ st7)
      refine thnF (pg.run _ s7 _ H7 x u _ I7' r7 (step x H7 y7)) fun _ s8 ⟨σ8, H8, I8, hw8, q8⟩ => ?_
      refine thnF (pt.run _ s8 σ8 H8 _ I8 q8) fun b s9 ⟨H9, I9, q9⟩ => ?_
      have fin : ∀ {s' : Shared} {H' : Hp}, Inv (X.blk s3 H3 scope ce fp) ([] ++ pinsAt fp s7.heap) σ8 H' s' → Nx H' → ∃ m, m < n ∧ ∃ i H', Inv (X.blk s3 H3 scope ce fp) [] (wipe σ (own.map (·.2))) H' s' ∧ tn i s'.heap ∧ (∀ b ∈ fp, H' b = none) ∧ W i m H' := fun {s' H'} I' nx => by
        obtain ⟨m', hm, w'⟩ := hNx H' nx
        have pin' : ∀ b ∈ fp, ∀ o, s7.heap.get? b = some o → s'.heap.get? b = some o ∧ H' b = none := fun b hb o e =>
          let z := I'.pin (b, o) (List.mem_append_right _ (List.mem_append_right _ (mem_pinsAt hb e)))
          ⟨z.1, z.2.1⟩
        have hl : (wipe σ (own.map (·.2))).length = σ8.length := by rw [← hw8, wipe_length]
        refine ⟨m', hm, i + 1, H', (I'.unpinned (pins := [])).weak hl (fun j v e => ?_), T.keep _ _ _ st7 fun b hb o e => (pin' b hb o e).1, fun b hb => ?_, w'⟩
        · rw [← hw8] at e
          exact (wipe_some e).1
        · obtain ⟨o, e, _⟩ := T.obj _ _ st7 b hb
          exact (pin' b hb o e).2
      cases b with
      | false =>
        simp only [Bool.false_eq_true, if_false] at q9 ⊢
        exact fin I9 q9
      | true =>
        simp only [if_true] at q9 ⊢
        have pe1 := pe (fun cls d _ H' => Wout cls d σ H') ((X.blk s3 H3 scope ce fp).pn ++ ([] ++ pinsAt fp s7.heap)) (fun u s' => ∃ (sB : Shared) (pB : List (Addr × Obj)) (σB : L2.St) (HB : Hp), Inv (X.blk s3 H3 scope ce fp) pB σB HB sB ∧ CX X.prog X.w X.stack HB sB (fun cls d H' => Wout cls d σ H') u s')
          fun σ' pins' H' s' u s'' I' c => ⟨s', _, σ', H', I'.ofTry I9.ok, c⟩
        refine wpAny_mono (pe1.run [] s9 σ8 H9 _ (I9.toTry _) q9) (fun z s10 ⟨yv, H10, I10, r10, acc, hD10, hz10, nx⟩ => ?_) fun u s10 ⟨sB, pB, σB, HB, IB, c⟩ => ?_
        · exact app_ok (X := X.blk s3 H3 scope ce fp) (I10.ofTry I9.ok) hD10 hz10 r10 fun s11 I11 => fin I11 nx
        · exact blk_raised (Wout := Wout) hst hf tk I3 (fun b hb => (f3 b hb).1) cL (Nat.le_refl _) cF IB c fun s11 hq => hq
  exact codeAny_compStart_list loop (T.self X.A 0 _ _ _ st4 loop)
end
end LH

namespace LH
open PySem PySem.Spec PyProof.Rows L2
/-! ### name = a comprehension whose step may raise -/
def blkEndU (M : Model) (A : Around) (E : Value → Shared → Prop) (u : Value → Sem Unit) (Q : Value → Shared → Prop) (acc : Value) (C : Addr) (fr : Option Addr) (r : Result) (s' : Shared) : Prop :=
  match r with
  | .ok _ => wpAny M A (u acc) (fun _ s'' => ∃ m, s''.heap.Ns C m ∧ ∀ h', Heap.SameBut C s''.heap h' → Q .none { s'' with heap := h' }) E s'
  | .error v => ∃ m, s'.heap.Ns C m ∧ ∀ h', Heap.SameBut C s'.heap h' → ∀ cenv : Env, cenv.frame = fr → wpAny M A (passOn "comprehension.variables-let-go" v cenv : Sem Value) (fun _ _ => False) E { s' with heap := h' }
/-- a comprehension's value, or what its block lets out, with the frame told -/
theorem comp_readsU {M : Model} {A : Around} {E : Value → Shared → Prop} {s : Shared} {env : Env} {e : Expr} {scope : Scope} {pos : Pos} {newAcc first : Sem Value} {g : Comprehension} {gs : List Comprehension} {cl : List (Str × Addr)} {u : Value → Sem Unit} {Q : Value → Shared → Prop}
    (hcl : clausesOf e = g :: gs) (hs : ∀ x, foldedSetIterable g.iter env x = pure x) (hclos : closureFor scope env = pure cl) (hkind : scope.kind = .function) (hnames : ∀ x ∈ scope.names, x.2 = .local → scope.names.lookup x.1 = some .local)
    (h : wpAny M A first (fun x s1 => wpAny M A (pyIter x) (fun it s2 => wpAny M A newAcc (fun acc s3 => wpAny M A (newFunctionEnv scope env.globals cl [] env.qual none .none (some env)) (fun cenv s4 =>
      cenv.frame = env.frame ∧ codeAny M A (.compStart e 0 it acc { cenv with scope := relabel scope env }) (blkEndU M A E u Q acc cenv.locals env.frame) s4) E s3) E s2) E s1) E s) :
    wpAny M A (comprehension e scope env pos newAcc false first (some u)) Q E s := by
  unfold comprehension
  rw [hclos, hcl]
  refine wpAny_bind (thn h fun x s1 h1 => wpAny_bind (wpAny_standAt (wpAny_bind (wpAny_of_eq (hs x) (wpAny_bind (wpAny_holding (thn h1 fun it s2 h2 => ?_)))))))
  refine wpAny_standIf (wpAny_bind (thn h2 fun acc s3 h3 => wpAny_bind (wpAny_pure (wpAny_bind (thn h3 fun cenv s4 h4 => ?_)))))
  obtain ⟨fr, h4⟩ := h4
  have locs : ∀ x ∈ (scope.names.filter fun x => (x.2 == .local || x.2 == .cell) && x.1 != (".0" : Str)).reverse, x.2 = .local → Env.kindOf { cenv with scope := relabel scope env } x.1 = some .local := fun x hx hl =>
    lookup_relabel_local (hnames x (List.mem_filter.mp (List.mem_reverse.mp hx)).1 hl)
  dsimp only
  have locs2 : ∀ x ∈ (scope.names.filter fun x => (x.2 == .local || x.2 == .cell) && x.1 != (".0" : Str)).reverse.drop 1 ++ (scope.names.filter fun x => (x.2 == .local || x.2 == .cell) && x.1 != (".0" : Str)).reverse.take 1, x.2 = .local → Env.kindOf { cenv with scope := relabel scope env } x.1 = some .local := fun x hx hl => by
    rcases List.mem_append.mp hx with h1 | h1
    · exact locs x (List.mem_of_mem_drop h1) hl
    · exact locs x (List.mem_of_mem_take h1) hl
  refine wpAny_holding (wpAny_bind (wpAny_attempt (wpAny_holding (wpAny_run (codeAny_mono h4 fun r s5 hr => ?_)))))
  cases r with
  | ok f =>
    refine wpAny_bind (wpAny_rule (wpAny_bind (wpAny_holding (wpAny_mono hr (fun _ s6 hr' => ?_) fun _ _ h' => h'))))
    obtain ⟨m, hn, hq⟩ := hr'
    exact wpAny_bind (wpAny_comp_letGo (cenv := { cenv with scope := relabel scope env }) hkind _ s6 m locs2 hn fun h' _ _ sb => wpAny_pure (hq h' sb))
  | error v =>
    obtain ⟨m, hn, hq⟩ := hr
    exact wpAny_bind (wpAny_holding (wpAny_comp_letGo (cenv := { cenv with scope := relabel scope env }) hkind _ s5 m locs hn fun h' _ _ sb => wpAny_mono (hq h' sb { cenv with scope := relabel scope env } fr) (fun _ _ z => z.elim) fun _ _ z => z))
section
variable {X : Cx}
theorem ps_setLcE {i : Nat} {y : Str} {py spos : Pos} {elt tg iter : Expr} {ifs : List Expr} {scope : Scope} {own : List (Str × Nat)} {pos : Pos} {wi : TI} {g : TG} {tt : TT} {te : WX → TE} {Wout : WX} (hst : X.stack = X.env :: X.outer) (hf : X.env.frame = some X.env.locals) (tk : Takes X Wout)
    (hc : X.calm = true) (hN : X.N.Nodup) (hy : X.N[i]? = some y) (hyl : X.env.scope.names.lookup y = some .local) (hsw : swapsWith (.ListComp elt [⟨tg, iter, ifs, 0⟩] scope pos) (some (.Name y py)) spos.line X.env = pure true) (hi : PI X tg iter wi) (ok : BlkOk X.N X.env.scope scope own)
    (hg : ∀ (s : Shared) (H : Hp) (C : Addr) (cl : List (Str × Addr)) (fp : List Addr), PG (X.blk s H scope (compEnvC scope cl C X.env) fp) tg g) (ht : ∀ (s : Shared) (H : Hp) (C : Addr) (cl : List (Str × Addr)) (fp : List Addr), PTs (X.blk s H scope (compEnvC scope cl C X.env) fp) ifs tt)
    (he : ∀ (s : Shared) (H : Hp) (C : Addr) (cl : List (Str × Addr)) (fp : List Addr) (W : WX) (pn : List (Addr × Obj)) (xe : Value → Shared → Prop), (∀ σ, PassesAt (L2.CX X.prog X.w) ((X.blk s H scope (compEnvC scope cl C X.env) fp).tr pn xe) σ (WE W σ)) →
      PE ((X.blk s H scope (compEnvC scope cl C X.env) fp).tr pn xe) elt (te W))
    (hs : ∀ x, foldedSetIterable iter X.env x = pure x := by intro _; rfl) :
    PS X (.Assign [.Name y py] (.ListComp elt [⟨tg, iter, ifs, 0⟩] scope pos) spos) (tAsg (tLcE Wout wi g tt te (own.map (·.2))) (gName i)) := by
  refine ⟨fun pins s σ H D₀ I h => ?_⟩
  rw [exec_Assign_Name_used _ _ _ _ hsw]
  refine wpAny_bind (wpAny_standAt (wpAny_bind ?_))
  show wpAny _ X.A (do let _ ← comprehension (.ListComp elt [⟨tg, iter, ifs, 0⟩] scope pos) scope X.env (firstIterPos [⟨tg, iter, ifs, 0⟩] pos) (newList []) false (eval iter X.env) (some (assign (.Name y py) X.env))) _ _ s
  have h : tLcE Wout wi g tt te (own.map (·.2)) σ H (fun x H1 => gName i x σ H1 D₀.nx) := h
  refine wpAny_bind (thn (Q := fun _ s' => SP X pins D₀ .next s') ?_ fun _ s' hq => wpAny_pure (wpAny_pure hq))
  have hfree : ∀ y ∈ scope.names, y.2 = .free → ∃ c, X.env.cells.lookup y.1 = some c := fun y hy e => I.ok.has _ (ok.free y hy e)
  refine comp_readsU rfl hs (closure_ok hfree) ok.kind (fun y hy e => by rw [ok.uniq y hy, e]) (thn (hi.run pins s σ H _ I h) fun xv s1 hx => thn hx fun itv s2 h2 => ?_)
  obtain ⟨it, fp, tn, J, H2, e, I2, T, st2, f2, q⟩ := h2
  subst e
  refine wpAny_newObj_type (newEnv_comp ⟨rfl, ?_⟩) (by show 0 ≤ sizeLine; decide)
  generalize hD : s2.heap.objs.size = D
  have hDn : H2 D = none := I2.hok.fresh (Nat.le_of_eq hD)
  obtain ⟨W, ⟨m0, w0⟩, turn⟩ := q D hDn
  generalize hs3 : ({ s2 with heap := s2.heap.push { cls := .type "list", data := .seq ([] : List Value).toArray } } : Shared) = s3
  have h3 : s3.heap = s2.heap.push { cls := .type "list", data := .seq ([] : List Value).toArray } := by rw [← hs3]
  have I3 : Inv X pins σ (upd H2 D (.lst [])) s3 := by
    rw [← hs3]
    refine I2.laid (t' := s2.toks) (fun b o e => Heap.get?_push_of_some _ e) (Nat.le_of_eq hD) ⟨Nat.zero_le _, [], 0, .nil, ?_⟩
    rw [← hD]
    exact Heap.get?_push_size _ rfl
  have f3 : ∀ b ∈ fp, FpOk X pins (upd H2 D (.lst [])) b ∧ b < s3.heap.objs.size := fun b hb => by
    obtain ⟨o, e, _⟩ := T.obj _ _ st2 b hb
    have hlt := Heap.lt_size e
    refine ⟨⟨?_, (f2 b hb).2⟩, by rw [h3, Heap.size_push]; exact Nat.lt_succ_of_lt hlt⟩
    rw [upd_ne (by rw [← hD]; exact Nat.ne_of_lt hlt)]
    exact (f2 b hb).1
  have st3 : tn 0 s3.heap := T.keep _ _ _ st2 fun b _ o e => by rw [h3]; exact Heap.get?_push_of_some _ e
  have I4 := block_start I3 ok hN f3
  have pg := hg s3 (upd H2 D (.lst [])) s3.heap.objs.size (cellsFrom (s3.heap.objs.size + 1) scope.names (cloFrom X.env.cells scope.names [])) fp
  have pt := ht s3 (upd H2 D (.lst [])) s3.heap.objs.size (cellsFrom (s3.heap.objs.size + 1) scope.names (cloFrom X.env.cells scope.names [])) fp
  have pe := he s3 (upd H2 D (.lst [])) s3.heap.objs.size (cellsFrom (s3.heap.objs.size + 1) scope.names (cloFrom X.env.cells scope.names [])) fp
  show codeAny _ _ (.compStart (.ListComp elt [⟨tg, iter, ifs, 0⟩] scope pos) 0 (.ref it) (.ref D) (compEnvC scope (cellsFrom (s3.heap.objs.size + 1) scope.names (cloFrom X.env.cells scope.names [])) s3.heap.objs.size X.env)) (blkEndU (model X.prog X.w) X.A X.xe (assign (.Name y py) X.env) _ (.ref D) s3.heap.objs.size X.env.frame) { s3 with heap := pushCells (s3.heap.push { cls := .type "dict", data := .dict #[] }) scope.names }
  have nfp : ∀ b ∈ fp, (upd H2 D (.lst [])) b = none := fun b hb => (f3 b hb).1.1
  generalize hce : compEnvC scope (cellsFrom (s3.heap.objs.size + 1) scope.names (cloFrom X.env.cells scope.names [])) s3.heap.objs.size X.env = ce at I4 pg pt pe ⊢
  have cL : ce.locals = s3.heap.objs.size := by subst hce; rfl
  have cF : ce.frame = X.env.frame := by subst hce; rfl
  generalize hH3 : upd H2 D (.lst []) = H3 at I3 I4 pg pt pe w0 nfp f3
  generalize hs4 : ({ s3 with heap := pushCells (s3.heap.push { cls := .type "dict", data := .dict #[] }) scope.names } : Shared) = s4 at I4 ⊢
  have st4 : tn 0 s4.heap := T.keep _ _ _ st3 fun b _ o e => by rw [← hs4]; exact pushCells_keeps _ _ _ _ (Heap.get?_push_of_some _ e)
  have stat : ∀ {σ' : L2.St} {H' : Hp} {s' : Shared}, Inv (X.blk s3 H3 scope ce fp) [] σ' H' s' → (∀ b ∈ fp, H' b = none) → ∀ b ∈ fp, FpOk (X.blk s3 H3 scope ce fp) [] H' b := fun {σ' H' s'} I' hn b hb =>
    ⟨hn b hb, (I'.ok.exf b hb).1, I'.ok.exfs b hb, .inl hb, fun x c e => (I'.ok.exf b hb).2 x c e, fun p hp => absurd (show p ∈ ([] : List (Addr × Obj)) ++ [] from hp) (by simp)⟩
  have loop : codeAny (model X.prog X.w) X.A (.compLoop (.ListComp elt [⟨tg, iter, ifs, 0⟩] scope pos) 0 (.ref it) (.ref D) ce) (blkEndU (model X.prog X.w) X.A X.xe (assign (.Name y py) X.env) (fun _ s' => SP X pins D₀ .next s') (.ref D) s3.heap.objs.size X.env.frame) s4 := by
    refine compLoop_any (fun n s' => ∃ i H', Inv (X.blk s3 H3 scope ce fp) [] (wipe σ (own.map (·.2))) H' s' ∧ tn i s'.heap ∧ (∀ b ∈ fp, H' b = none) ∧ W i n H') ?_ m0 ⟨0, H3, I4, st4, nfp, w0⟩
    rintro n s5 ⟨i, H5, I5, st5, n5, w5⟩
    rcases turn i n H5 w5 with ⟨stop, qq⟩ | ⟨go, Nx, hNx, step⟩
    · refine thnF (T.done (X.blk s3 H3 scope ce fp) rfl rfl rfl hc i [] s5 _ H5 (fun _ _ => False) I5 (stat I5 n5) st5 stop) fun r s6 ⟨hr, I6⟩ => ?_
      subst hr
      have I7 : Inv X pins σ H5 s6 := I3.call' (ch := fp) I6.os I6.base I6.hok I6.bare fun b hb => ⟨(f3 b hb).1.2.2.2.1, (f3 b hb).1.2.1, (f3 b hb).1.2.2.2.2.1, (f3 b hb).1.2.2.2.2.2⟩
      have nC : H5 s3.heap.objs.size = none := by
        have z : H5 ce.locals = none := I6.free
        rw [cL] at z
        exact z
      obtain ⟨m, hn, _⟩ := I6.loc
      have hn : s6.heap.Ns ce.locals m := hn
      rw [cL] at hn
      obtain ⟨f0, f1, f2, f3, f4, f5⟩ := I3.fpOk (Nat.le_refl _) nC
      show wpAny _ _ (assign (.Name y py) X.env (.ref D)) _ _ _
      refine wpAny_assign_Name (store_ok2 (v := V.ref D) I7 hN hy (.inl hyl) rfl (fun s2 I2 ⟨a, sb, ha⟩ => ?_) (.inr hyl))
      have haC : s3.heap.objs.size ≠ a := by
        rcases ha with z | z
        · rw [z]; exact f1
        · exact fun e => f4 y a z e.symm
      refine ⟨m, hn.sameBut sb haC, fun h3 sb3 => ?_⟩
      exact ⟨_, H5, I2.turned (t' := s2.toks) (fun b o hb e => (sb3.2 b hb).trans e) f0 f1 f3 f4 f5, qq⟩
    · refine thnF (T.item (X.blk s3 H3 scope ce fp) rfl rfl rfl hc i [] s5 _ H5 (fun _ _ => False) I5 (stat I5 n5) st5 go) fun r s6 ⟨u, hr, h6⟩ => ?_
      subst hr
      refine thnF h6 fun _ s7 ⟨x, H7, I7, r7, y7, st7, n7⟩ => ?_
      have I7' := I7.pinned (stat I7 n7) (T.obj _ _ st7)
      refine thnF (pg.run _ s7 _ H7 x u _ I7' r7 (step x H7 y7)) fun _ s8 ⟨σ8, H8, I8, hw8, q8⟩ => ?_
      refine thnF (pt.run _ s8 σ8 H8 _ I8 q8) fun b s9 ⟨H9, I9, q9⟩ => ?_
      have fin : ∀ {s' : Shared} {H' : Hp}, Inv (X.blk s3 H3 scope ce fp) ([] ++ pinsAt fp s7.heap) σ8 H' s' → Nx H' → ∃ m, m < n ∧ ∃ i H', Inv (X.blk s3 H3 scope ce fp) [] (wipe σ (own.map (·.2))) H' s' ∧ tn i s'.heap ∧ (∀ b ∈ fp, H' b = none) ∧ W i m H' := fun {s' H'} I' nx => by
        obtain ⟨m', hm, w'⟩ := hNx H' nx
        have pin' : ∀ b ∈ fp, ∀ o, s7.heap.get? b = some o → s'.heap.get? b = some o ∧ H' b = none := fun b hb o e =>
          let z := I'.pin (b, o) (List.mem_append_right _ (List.mem_append_right _ (mem_pinsAt hb e)))
          ⟨z.1, z.2.1⟩
        have hl : (wipe σ (own.map (·.2))).length = σ8.length := by rw [← hw8, wipe_length]
        refine ⟨m', hm, i + 1, H', (I'.unpinned (pins := [])).weak hl (fun j v e => ?_), T.keep _ _ _ st7 fun b hb o e => (pin' b hb o e).1, fun b hb => ?_, w'⟩
        · rw [← hw8] at e
          exact (wipe_some e).1
        · obtain ⟨o, e, _⟩ := T.obj _ _ st7 b hb
          exact (pin' b hb o e).2
      cases b with
      | false =>
        simp only [Bool.false_eq_true, if_false] at q9 ⊢
        exact fin I9 q9
      | true =>
        simp only [if_true] at q9 ⊢
        have pe1 := pe (fun cls d _ H' => Wout cls d σ H') ((X.blk s3 H3 scope ce fp).pn ++ ([] ++ pinsAt fp s7.heap)) (fun u s' => ∃ (sB : Shared) (pB : List (Addr × Obj)) (σB : L2.St) (HB : Hp), Inv (X.blk s3 H3 scope ce fp) pB σB HB sB ∧ CX X.prog X.w X.stack HB sB (fun cls d H' => Wout cls d σ H') u s')
          fun σ' pins' H' s' u s'' I' c => ⟨s', _, σ', H', I'.ofTry I9.ok, c⟩
        refine wpAny_mono (pe1.run [] s9 σ8 H9 _ (I9.toTry _) q9) (fun z s10 ⟨yv, H10, I10, r10, acc, hD10, hz10, nx⟩ => ?_) fun u s10 ⟨sB, pB, σB, HB, IB, c⟩ => ?_
        · exact app_ok (X := X.blk s3 H3 scope ce fp) (I10.ofTry I9.ok) hD10 hz10 r10 fun s11 I11 => fin I11 nx
        · exact blk_raised (Wout := Wout) hst hf tk I3 (fun b hb => (f3 b hb).1) cL (Nat.le_refl _) cF IB c fun s11 hq => hq
  exact codeAny_compStart_list loop (T.self X.A 0 _ _ _ st4 loop)
end
end LH

namespace LH
open PySem PySem.Spec PyProof.Rows L2
section
variable {X : Cx}
/-- tuple(text) -/
theorem call_tupS (hc : X.calm = true) : CallR X (.type "tuple") (fun xs H Q => ∃ z : Str, xs = [.str z] ∧ z.length ≤ sizeLine ∧ ∀ p, H p = none → Q (.ref p) (upd H p (.tup (sgns z)))) := by
  intro pins s σ H xs us Q I r h
  obtain ⟨z, rfl, hz, q⟩ := h
  obtain ⟨u, rfl, rx⟩ := vals1 r
  obtain ⟨t, rfl⟩ := rx
  refine PySem.call_tuple_str (I.ok.hd hc) z t (fun h' tk acc kp ha => ?_) hz
  have I2 : Inv X pins σ H { s with heap := h' } := I.kept (t' := s.toks) kp
  have e2 : acc.toList.toArray = acc := by simp
  refine ⟨.ref h'.objs.size, _, I2.laid (t' := tk) (fun b o e => Heap.get?_push_of_some _ e) (Nat.le_refl _) (show ObjOk X.prog X.w _ _ _ (.tup (sgns z)) from ⟨by rw [sgns_len]; exact hz, acc.toList, vals_sgns ha, ?_⟩), rfl, q _ (I2.hok.fresh (Nat.le_refl _))⟩
  rw [e2]
  exact ⟨_, Heap.get?_push_size _ rfl, rfl, _, rfl⟩
/-- isinstance(e, C), e the caught exception, whatever its class -/
def rIsEv (K : PySem.W.Frag) (cls : Value) (d : Option Addr) (a : Addr) : List V → Hp → VK → Prop := fun xs H Q => ∃ (D : Addr) (c : V) (cv : Value) (b : Bool), cls = .ref D ∧ d = none ∧ ExcC K D ∧ xs = [.ref a, c] ∧ (∀ u, RelV c u → u = cv) ∧ PySem.W.kitOne K (.ref D) cv = some b ∧ Q (.bl b) H
theorem call_isEv {a : Addr} {cls : Value} {d : Option Addr} {oe : Obj} {pn : List (Addr × Obj)} (hz : Zc cls d oe) (hf : ∃ vs, oe.data = .fields vs) : CallR (X.suite a ((a, oe) :: pn)) (.builtin "isinstance") (rIsEv X.K cls d a) := by
  intro pins s σ H xs us Q I r h
  obtain ⟨D, c, cv, b, rfl, rfl, C, e1, e2, e3, q⟩ := h
  exact call_isE C hz hf pins s σ H xs us Q I r ⟨c, cv, b, e1, e2, e3, q⟩
/-- isinstance(e, (C1, C2, ..)) -/
def rIsEvT (K : PySem.W.Frag) (cls : Value) (d : Option Addr) (a : Addr) : List V → Hp → VK → Prop := fun xs H Q => ∃ (D tp : Addr) (cs : List V) (ws : List Value) (b : Bool), cls = .ref D ∧ d = none ∧ ExcC K D ∧ xs = [.ref a, .ref tp] ∧ H tp = some (.tup cs) ∧ Paired ClsV cs ws ∧ PySem.W.kitAny K (.ref D) ws = some b ∧ Q (.bl b) H
theorem call_isEvT {a : Addr} {cls : Value} {d : Option Addr} {oe : Obj} {pn : List (Addr × Obj)} (hz : Zc cls d oe) (hf : ∃ vs, oe.data = .fields vs) : CallR (X.suite a ((a, oe) :: pn)) (.builtin "isinstance") (rIsEvT X.K cls d a) := by
  intro pins s σ H xs us Q I r h
  obtain ⟨D, tp, cs, ws, b, rfl, rfl, C, rfl, hT, k, e, q⟩ := h
  obtain ⟨u1, u2, rfl, r1, r2⟩ := vals2 r
  cases (show u1 = Value.ref a from r1)
  cases (show u2 = Value.ref tp from r2)
  obtain ⟨hget, _⟩ := I.pin (a, oe) (List.mem_append.mpr (.inl List.mem_cons_self))
  obtain ⟨vs, hv⟩ := hf
  have J : PySem.W.InstAt s.heap a oe D none := by
    obtain ⟨oc, od, oda, osl⟩ := oe
    obtain ⟨h1, h2⟩ := hz
    dsimp only at h1 h2 hv
    subst h1 h2 hv
    exact ⟨hget, rfl, rfl, trivial⟩
  obtain ⟨_, its, rv, o, h1, h2, n, h3⟩ := (show ObjOk (X.suite a ((a, oe) :: pn)).prog (X.suite a ((a, oe) :: pn)).w H s.heap tp (.tup cs) from I.hok tp _ hT)
  have e3 := ClsV.all k rv
  subst e3
  obtain ⟨oc, od, dt, sl⟩ := o
  simp only at h2 h3
  subst h2 h3
  exact PySem.W.kia_tup (PySem.W.handS_kitx_exc C.hg C.hk C.hs C.hd C.ha C.hn C.ht C.hm) I.kIn J h1 e (fun z => nomatch z) fun tk => ⟨.bl b, H, I.kept (t' := tk) fun _ _ z => z, rfl, q⟩
end
/-- a promise of nothing -/
theorem ok_never {P : Program} {w : World} {K : PySem.W.Frag} {mg : Str → Option Value} {base : Heap} {k : Nat} {f : Addr} {fd : FuncData} {ps : List Str} : FnOk P w K mg base CX0 k f fd ps (fun _ _ _ _ => False) := ⟨fun _ _ _ _ h => h.elim, fun _ _ _ _ _ _ _ _ _ _ _ _ _ h => h.elim⟩
end LH

namespace LH
open PySem PySem.Spec PyProof.Rows L2 NdefX LamX
section
variable {P : Program} {w : World} {K : PySem.W.Frag} {mg : Str → Option Value} {base : Heap}
/-! ### items_of, branches_of: told, or refused -/
def sp_itemsZ (A : Addr) : Sp := fun vs H Q E => ∃ (z : Str) (b : List Nat), vs = [.str z, .str (tJ b)] ∧ Zl z.cps.toList ∧ z.cps.toList ≠ [] ∧ b.length ≤ 1000 ∧
  (∀ its H' p as, its ≠ [] → BrT z.cps.toList its b → Same H H' → H p = none → ItmsAt H' p as its → Q (.ref p) H') ∧
  (∀ H', Same H H' → (¬ ∃ its, its ≠ [] ∧ BrT z.cps.toList its b) → E (.ref A) none H')
theorem ok_itemsZ (T : TX K mg) : FnOk P w K mg base (L2.CX P w) 4 T.a_items_of T.fd_items_of ["letters", "branch"] (sp_itemsZ T.A_NoPattern) := by
  have G_choice_at : FnOk P w K mg base (L2.CX P w) 3 T.a_choice_at T.fd_choice_at ["letters", "branch", "at"] (sp_choiceZ T.A_NoPattern) := ok_choiceZ T
  have G_mark_at : FnOk P w K mg base CX0 1 T.a_mark_at T.fd_mark_at ["branch", "at"] sp_mark_at := ok_mark_at T
  refine T.F_items_of.okX sc_items_of (fun vs H Q E h => ?_) (fun cdv A outer s0 H vs Q E hr h => ?_)
  · obtain ⟨z, b, rfl, _⟩ := h
    rfl
  · obtain ⟨z, b, rfl, zl, zn, hb, q, qE⟩ := h
    refine ⟨_, (pss_cons (ps_if (pt_cmpR op_eq (pv 1) pe_str (nomark _))
        (pss_one (ps_raise rfl (takes_of rfl rfl rfl rfl) (pmk_own PySem.F.excBase_ValueError T.e_NoPattern T.x_NoPattern T.k_NoPattern (raises_own T.b_NoPattern T.t_NoPattern) (by exact rfl))))
        pss_nil)
      (pss_cons (ps_set (i := 2) sc_items_of.nd rfl (Or.inl rfl) (pe_lst pa_nil))
      (pss_cons (ps_set (i := 3) sc_items_of.nd rfl (Or.inl rfl) pe_int)
      (pss_cons (ps_while (passes_of rfl) (pt_cmpR op_lt (pv 3) (pe_callB call_len_str (by rfl) T.m_len (by decide +kernel) (pa_cons (pv 1) pa_nil)) (nomark _))
        (pss_cons (ps_asg (pe_callS G_choice_at (hr.mono (by decide)) (by rfl) T.g_choice_at T.F_choice_at.kp T.b_choice_at (fun σ => passAt (takes_of rfl rfl rfl rfl) σ) (pa_cons (pv 0) (pa_cons (pv 1) (pa_cons (pv 3) pa_nil)))) (pg_tupK (n := 2) K rfl (by rfl) (pgs_cons (pg_name (i := 4) sc_items_of.nd rfl (Or.inl rfl)) (pgs_cons (pg_name (i := 3) sc_items_of.nd rfl (Or.inl rfl)) pgs_nil))))
          (pss_cons (ps_set (i := 5) sc_items_of.nd rfl (Or.inl rfl) (pe_call G_mark_at (hr.mono (by decide)) (by rfl) T.g_mark_at T.F_mark_at.kp T.b_mark_at .nil pass0 (pa_cons (pv 1) (pa_cons (pv 3) pa_nil))))
          (pss_cons (ps_aug (i := 3) sc_items_of.nd rfl (Or.inl rfl) (pe_callB call_len_str (by rfl) T.m_len (by decide +kernel) (pa_cons (pv 5) pa_nil)) ip_add)
          (pss_one (ps_expr (pe_bmK K rfl PySem.F.plainAttrs_list PySem.F.slot_list_append PySem.F.type_list_append mt_append (pv 2) (pa_cons (pe_tup (pa_cons (pv 4) (pa_cons (pv 5) pa_nil))) pa_nil))))))))
      (pss_one (ps_ret (pv 2))))))), ?_⟩
    have bl : (tJ b).length ≤ sizeLine := by rw [tJ_len]; exact seven _ hb
    refine ⟨.str (tJ b), rfl, rfl, decide (b = []), by rw [s_none, tJ_eq], ?_⟩
    by_cases hb0 : b = []
    · rw [decide_eq_true hb0]
      refine iteT (qE _ (Same.refl _) ?_)
      rintro ⟨its, n, bt⟩
      exact bt.ne zl n hb0
    rw [decide_eq_false hb0]
    refine iteF ?_
    refine ⟨by show 0 ≤ sizeLine; decide, fun l nl => ?_⟩
    refine ⟨fun m σ H' => ∃ (dn : List Itm) (u : List Nat) (k : Nat) (as : List Addr) (y4 y5 : Option V), m = u.length ∧ b.drop k = u ∧ k + u.length = b.length ∧ (∀ its, BrT z.cps.toList its b → ∃ td, its = dn ++ td ∧ BrT z.cps.toList td u) ∧ (∀ td, BrT z.cps.toList td u → BrT z.cps.toList (dn ++ td) b) ∧ Same H H' ∧ ItmsAt H' l as dn ∧ dn.length ≤ k ∧ σ = [some (.str z), some (.str (tJ b)), some (.ref l), some (.int (k : Int)), y4, y5],
      ⟨b.length, [], b, 0, [], none, none, rfl, rfl, Nat.zero_add _, fun its h => ⟨its, rfl, h⟩, fun td h => h, same_new nl, ⟨upd_same, rfl, fun i a it x => by simp at x⟩, Nat.le_refl _, rfl⟩, fun m σ H1 hW => ?_⟩
    obtain ⟨dn, u, k, as, y4, y5, rfl, eu, lu, inv1, inv2, s1, ia, dk, rfl⟩ := hW
    refine ⟨.int (k : Int), rfl, .str (tJ b), rfl, tJ b, rfl, bl, _, _, rfl, rfl, _, rfl, ite2 (fun y => ?_) (fun y => ?_)⟩
    · have hk : k < b.length := by
        have := of_decide_eq_true y
        rw [tJ_len] at this
        omega
      have une : u ≠ [] := fun e => by
        rw [e] at lu
        have : ([] : List Nat).length = 0 := rfl
        omega
      refine ⟨fun σ' H' => ∃ (dn' : List Itm) (r : List Nat) (k' : Nat) (as : List Addr) (y4 y5 : Option V), r.length < u.length ∧ b.drop k' = r ∧ k' + r.length = b.length ∧ (∀ its, BrT z.cps.toList its b → ∃ td, its = dn' ++ td ∧ BrT z.cps.toList td r) ∧ (∀ td, BrT z.cps.toList td r → BrT z.cps.toList (dn' ++ td) b) ∧ Same H H' ∧ ItmsAt H' l as dn' ∧ dn'.length ≤ k' ∧ σ' = [some (.str z), some (.str (tJ b)), some (.ref l), some (.int (k' : Int)), y4, y5], fun σ' H' hN => ?_, ?_⟩
      · obtain ⟨dn', r, k', as', y4, y5, lt, r1, r2, r3, r4, r5, r6, r7, rfl⟩ := hN
        exact ⟨r.length, lt, dn', r, k', as', y4, y5, rfl, r1, r2, r3, r4, r5, r6, r7, rfl⟩
      refine ⟨.str z, rfl, .str (tJ b), rfl, .int (k : Int), rfl, z, b, k, rfl, zl, zn, hb, hk, fun s h r H2 p hd eh s2 np ep => ?_, fun H2 s2 no => ?_⟩
      · rw [eu] at eh
        obtain ⟨m, r', hm, rfl, fr⟩ := mk_split r
        have eu2 : b.drop k = h ++ (mkI m ++ r') := by rw [eu, eh]
        refine ⟨p, _, rfl, .inl (.inl ep), rfl, .str (tJ s), _, rfl, .int ((k + h.length : Nat) : Int), [], rfl, rfl, ?_⟩
        refine ⟨.str (tJ b), rfl, .int ((k + h.length : Nat) : Int), rfl, b, r', k + h.length, m, rfl, hb, hm, drop_app eu2, fr, ?_⟩
        refine ⟨.int ((k + h.length : Nat) : Int), rfl, .str (tJ (mkI m)), rfl, tJ (mkI m), rfl, ?_, ?_⟩
        · rw [tJ_len]
          have : (mkI m).length ≤ 1 := by
            unfold mkI
            split
            · decide
            · split <;> decide
          exact seven _ (by omega)
        refine ⟨_, _, rfl, rfl, ?_⟩
        have el := s2 _ _ ia.1
        refine ⟨.ref l, rfl, .inl ⟨rfl, _, .inl (.inl el)⟩, .str (tJ s), rfl, .str (tJ (mkI m)), rfl, by show 2 ≤ sizeLine; decide, fun t nt => ?_⟩
        have s3 := same_new (o := .tup [V.str (tJ s), V.str (tJ (mkI m))]) nt
        have lt := ne_of_none el nt
        have ll : as.length = dn.length := ia.2.1
        have few : as.length ≤ 100000 := by omega
        have ia3 := ia.same (s2.trans s3)
        obtain ⟨c, rr, e1, _⟩ := hd.first zl
        have hl : 1 ≤ h.length := by
          rw [e1, List.length_cons]
          omega
        have lu2 := congrArg List.length eh
        rw [List.length_append, List.length_append] at lu2
        refine ⟨l, vr as, _, rfl, rfl, s3 _ _ el, by rw [List.length_map]; exact fit6 few, dn ++ [⟨s, m⟩], r', k + h.length + (mkI m).length, as ++ [t], some (V.str (tJ s)), some (V.str (tJ (mkI m))), by omega, ?_, by omega, ?_, ?_, fun b' o eb => ?_, ⟨by rw [upd_same, vr_snoc], by rw [List.length_append, List.length_append, ll]; rfl, snoc_at ll (fun j a it x1 x2 => ?_) ?_⟩, ?_, ?_⟩
        · have e2 := drop_app (h := h ++ mkI m) (r := r') (b := b) (k := k) (by rw [eu2, List.append_assoc])
          rw [List.length_append] at e2
          rw [Nat.add_assoc]
          exact e2
        · intro its bt
          obtain ⟨td, e3, bt2⟩ := inv1 its bt
          rw [eh] at bt2
          obtain ⟨td', e4, bt3⟩ := bt2.step zl hm hd fr
          exact ⟨td', by rw [e3, e4, List.append_assoc]; rfl, bt3⟩
        · intro td bt
          have := inv2 (⟨s, m⟩ :: td) (by rw [eh, ← List.append_assoc]; exact BrT.cons ⟨hm, h, hd, rfl⟩ bt)
          rw [List.append_assoc]
          exact this
        · rw [upd_ne (ne_of_none eb nl)]
          exact s3 _ _ (s2 _ _ (s1 _ _ eb))
        · have := ia3.2.2 j a it x1 x2
          rw [upd_ne (fun z => by rw [z, ia3.1] at this; cases this)]
          exact this
        · rw [upd_ne lt.symm, upd_same]
        · rw [List.length_append]
          show dn.length + 1 ≤ _
          omega
        · have e5 : ((k + h.length : Nat) : Int) + ((tJ (mkI m)).length : Int) = ((k + h.length + (mkI m).length : Nat) : Int) := by
            rw [tJ_len]
            omega
          show [some (V.str z), some (V.str (tJ b)), some (V.ref l), some (V.int (((k + h.length : Nat) : Int) + ((tJ (mkI m)).length : Int))), some (V.str (tJ s)), some (V.str (tJ (mkI m)))] = _
          rw [e5]
      · refine qE _ (s1.trans s2) ?_
        rintro ⟨its, n, bt⟩
        obtain ⟨td, e3, bt2⟩ := inv1 its bt
        rw [eu] at no
        exact no (bt2.head une)
    · have hk : b.length ≤ k := by
        have : ¬ k < b.length := fun h => y (decide_eq_true (by rw [tJ_len]; omega))
        omega
      have u0 : u = [] := List.eq_nil_of_length_eq_zero (by omega)
      have bt := inv2 [] (by rw [u0]; exact .nil)
      rw [List.append_nil] at bt
      refine ⟨.ref l, rfl, q dn _ l as (fun e => ?_) bt s1 nl ia⟩
      rw [e] at bt
      cases bt
      exact hb0 rfl
/-- things that are no texts -/
inductive NStr (H : Hp) : V → Prop where
  | non : NStr H .non
  | bl (b : Bool) : NStr H (.bl b)
  | int (i : Int) : NStr H (.int i)
  | lst {a : Addr} {xs : List V} (h : H a = some (.lst xs)) : NStr H (.ref a)
  | tup {a : Addr} {xs : List V} (h : H a = some (.tup xs)) : NStr H (.ref a)
  | dk {a : Addr} {kvs : List (Key × V)} (h : H a = some (.dK kvs)) : NStr H (.ref a)
theorem NStr.ext {H H' : Hp} {v : V} (h : NStr H v) (s : ExtN H H') : NStr H' v := by
  cases h with
  | non => exact .non
  | bl b => exact .bl b
  | int i => exact .int i
  | lst h => exact .lst (s _ _ h (by intro ps z; cases z))
  | tup h => exact .tup (s _ _ h (by intro ps z; cases z))
  | dk h => exact .dk (s _ _ h (by intro ps z; cases z))
theorem NStr.same {H H' : Hp} {v : V} (h : NStr H v) (s : Same H H') : NStr H' v := h.ext (.of s)
theorem NStr.ty {K : PySem.W.Frag} {H : Hp} {v : V} (h : NStr H v) : ∃ t : Value, TyX K H v t ∧ PySem.W.kitOne K t (.type "str") = some false := by
  cases h with
  | non => exact ⟨_, .base .non, kit_ty (by decide +kernel)⟩
  | bl b => exact ⟨_, .base (.bl b), kit_ty (by decide +kernel)⟩
  | int i => exact ⟨_, .base (.int i), kit_ty (by decide +kernel)⟩
  | lst h => exact ⟨_, .base (.lst h), kit_ty (by decide +kernel)⟩
  | tup h => exact ⟨_, .base (.tup h), kit_ty (by decide +kernel)⟩
  | dk h => exact ⟨_, .base (.dK h), kit_ty (by decide +kernel)⟩
/-- the branches of a text that is a pattern -/
def IsPat (z : List Nat) (brs : List (List Itm)) (pt : Str) : Prop := brs ≠ [] ∧ manyI brs ≤ 8 ∧ PatT z brs pt
theorem inJ_join (y : Str) : ∀ {parts : List Str}, ∀ p ∈ parts, p.length ≤ (Str.join y parts).length
  | [], _, h => nomatch h
  | [a], p, h => by
    rw [List.mem_singleton.mp h]
    exact Nat.le_refl _
  | a :: b :: r, p, h => by
    show p.length ≤ (a ++ y ++ Str.join y (b :: r)).length
    have l1 : (a ++ y ++ Str.join y (b :: r)).length = (a ++ y).length + (Str.join y (b :: r)).length := Array.size_append
    have l2 : (a ++ y).length = a.length + y.length := Array.size_append
    rcases List.mem_cons.mp h with rfl | h
    · omega
    · have := inJ_join y (parts := b :: r) p h
      omega
theorem patT_split {z : List Nat} (zl : Zl z) {brs : List (List Itm)} {pt : Str} (h : PatT z brs pt) (ne : brs ≠ []) : ∃ ts : List (List Nat), Txt.split pt (tJ [124]) = ts.map tJ ∧ brs.length = ts.length ∧ ∀ (j : Nat) (br : List Itm) (t : List Nat), brs[j]? = some br → ts[j]? = some t → br ≠ [] ∧ BrT z br t := by
  obtain ⟨ts, ep, hl, ht⟩ := h
  refine ⟨ts, ?_, hl, fun j br t a b => ⟨(ht j br t a b).1, (ht j br t a b).2.1⟩⟩
  rw [ep]
  refine TL.split_join (s := 124) (S := []) rfl (by decide +kernel) (fun h => ne (List.eq_nil_of_length_eq_zero (by rw [hl, ← List.length_map (f := tJ), h]; rfl))) fun p hp => ?_
  obtain ⟨t, htm, rfl⟩ := List.mem_map.mp hp
  obtain ⟨j, hj⟩ := List.mem_iff_getElem?.mp htm
  have := (List.getElem?_eq_some_iff.mp hj).1
  exact (ht j _ t (List.getElem?_eq_getElem (by omega)) hj).2.1.bar zl
theorem patT_of_split {z : List Nat} {brs : List (List Itm)} {pt : Str} {ts : List (List Nat)} (e : Txt.split pt (tJ [124]) = ts.map tJ) (hl : brs.length = ts.length) (ht : ∀ (j : Nat) (br : List Itm) (t : List Nat), brs[j]? = some br → ts[j]? = some t → br ≠ [] ∧ BrT z br t) (lp : pt.length ≤ 1000) : PatT z brs pt := by
  have e2 := StrLaws.join_split pt (tJ [124])
  refine ⟨ts, by rw [TL.join_eq, ← e, e2], hl, fun j br t a b => ⟨(ht j br t a b).1, (ht j br t a b).2, ?_⟩⟩
  have hm : tJ t ∈ Txt.split pt (tJ [124]) := by
    rw [e]
    exact List.mem_map.mpr ⟨t, List.mem_of_getElem? b, rfl⟩
  have := inJ_join (tJ [124]) _ hm
  rw [e2, tJ_len] at this
  omega
theorem split_tJ (pt : Str) : ∃ ts : List (List Nat), Txt.split pt (tJ [124]) = ts.map tJ ∧ ts ≠ [] ∧ ts.length ≤ pt.length + 2 ∧ ∀ t ∈ ts, t.length ≤ pt.length := by
  have e : Txt.split pt (tJ [124]) = ((Txt.split pt (tJ [124])).map fun s => s.cps.toList).map tJ := by
    rw [List.map_map]
    conv => lhs; rw [← List.map_id (Txt.split pt (tJ [124]))]
    exact List.map_congr_left fun s _ => (tJ_list s).symm
  have sp := PyProof.Rows.split_pos pt (tJ [124])
  have sl := PyProof.Rows.split_le pt (tJ [124])
  refine ⟨_, e, fun h => ?_, by rw [List.length_map]; exact sl, fun t ht => ?_⟩
  · have := congrArg List.length h
    rw [List.length_map] at this
    have : (Txt.split pt (tJ [124])).length = 0 := this
    omega
  · obtain ⟨s, hs, rfl⟩ := List.mem_map.mp ht
    have := inJ_join (tJ [124]) s hs
    rw [StrLaws.join_split] at this
    rw [Array.length_toList]
    exact this
theorem isPat_many {z : List Nat} {brs : List (List Itm)} {pt : Str} (h : IsPat z brs pt) : brs.length ≤ 8 := by
  obtain ⟨ne, h8, ts, ep, hl, ht⟩ := h
  have : ∀ b ∈ brs, 1 ≤ b.length := fun b hb => by
    obtain ⟨j, hj⟩ := List.mem_iff_getElem?.mp hb
    have lt := (List.getElem?_eq_some_iff.mp hj).1
    have := (ht j b _ hj (List.getElem?_eq_getElem (by omega))).1
    exact List.length_pos_iff.mpr this
  unfold manyI at h8
  have key : ∀ l : List (List Itm), (∀ b ∈ l, 1 ≤ b.length) → l.length ≤ (l.map List.length).sum := fun l => by
    induction l with
    | nil => exact fun _ => Nat.le_refl _
    | cons a r ih =>
      intro h
      have h1 := h a List.mem_cons_self
      have h2 := ih fun x hx => h x (List.mem_cons_of_mem _ hx)
      rw [List.map_cons, List.sum_cons, List.length_cons]
      omega
  have := key brs this
  omega
def sp_branchesZ (A : Addr) : Sp := fun vs H Q E => ∃ (z : Str) (v : V), vs = [.str z, v] ∧ Zl z.cps.toList ∧ z.cps.toList ≠ [] ∧ ((NStr H v ∧ ∀ H', Same H H' → E (.ref A) none H') ∨ ∃ pt : Str, v = .str pt ∧ pt.length ≤ 1000 ∧
  (∀ brs H' p as, IsPat z.cps.toList brs pt → Same H H' → H p = none → BrsAt H' p as brs → Q (.ref p) H') ∧
  (∀ H', Same H H' → (¬ ∃ brs, IsPat z.cps.toList brs pt) → E (.ref A) none H'))
theorem ok_branchesZ (T : TX K mg) : FnOk P w K mg base (L2.CX P w) 5 T.a_branches_of T.fd_branches_of ["letters", "pattern"] (sp_branchesZ T.A_NoPattern) := by
  have G_items_of : FnOk P w K mg base (L2.CX P w) 4 T.a_items_of T.fd_items_of ["letters", "branch"] (sp_itemsZ T.A_NoPattern) := ok_itemsZ T
  refine T.F_branches_of.okX sc_branches_of (fun vs H Q E h => ?_) (fun cdv A outer s0 H vs Q E hr h => ?_)
  · obtain ⟨z, v, rfl, _⟩ := h
    rfl
  · obtain ⟨z, v, rfl, zl, zn, h⟩ := h
    refine ⟨_, (pss_cons (ps_if (pt_not (pt_val (pe_callB (call_isiK K rfl) (by rfl) T.m_isinstance (by decide +kernel) (pa_cons (pv 1) (pa_cons (pe_bltn (v := .ty "str") (by rfl) T.m_str (by decide +kernel) rfl) pa_nil)))))
        (pss_one (ps_raise rfl (takes_of rfl rfl rfl rfl) (pmk_own PySem.F.excBase_ValueError T.e_NoPattern T.x_NoPattern T.k_NoPattern (raises_own T.b_NoPattern T.t_NoPattern) (by exact rfl))))
        pss_nil)
      (pss_cons (ps_setLcE (i := 2) (own := [("branch", 3)]) (g := gName 3) (tt := tYes) rfl rfl (takes_of rfl rfl rfl rfl) (by rfl) sc_branches_of.nd rfl rfl (sw_true rfl rfl rfl (by decide +kernel)) (pi_listK K rfl (pe_split (pv 1) pe_str)) (blkOk_by (own := [("branch", 3)]) (N := N_branches_of) (by kernel_rfl)) (fun _ _ _ _ _ => (pg_name (i := 3) sc_branches_of.nd rfl (by first | exact Or.inl rfl | exact Or.inr rfl))) (fun _ _ _ _ _ => pts_nil) (fun _ _ _ _ _ _ _ _ tkE_ => (pe_callS G_items_of (hr.mono (by decide)) (by rfl) T.g_items_of T.F_items_of.kp T.b_items_of tkE_ (pa_cons (pv 0) (pa_cons (pv 3) pa_nil)))))
      (pss_cons (ps_if (pt_cmpR op_gt (pe_callB (cr_sumK K rfl rfl) (by rfl) T.m_sum (by decide +kernel) (pa_cons (pe_lc (own := [("items", 4)]) (g := gName 4) (tt := tYes) (by rfl) sc_branches_of.nd (pi_listK K rfl (pv 2)) (blkOk_by (own := [("items", 4)]) (N := N_branches_of) (by kernel_rfl)) (fun _ _ _ _ _ => (pg_name (i := 4) sc_branches_of.nd rfl (by first | exact Or.inl rfl | exact Or.inr rfl))) (fun _ _ _ _ _ => pts_nil) (fun _ _ _ _ _ => (pe_callB (call_lenK K rfl) (by rfl) T.m_len (by decide +kernel) (pa_cons (pv 4) pa_nil)))) pa_nil)) (pe_glob (v := .int 8) (by rfl) T.c_MOST_ITEMS ⟨_, rfl⟩) (nomark _))
        (pss_one (ps_raise rfl (takes_of rfl rfl rfl rfl) (pmk_own PySem.F.excBase_ValueError T.e_NoPattern T.x_NoPattern T.k_NoPattern (raises_own T.b_NoPattern T.t_NoPattern) (by exact rfl))))
        pss_nil)
      (pss_one (ps_ret (pv 2)))))), ?_⟩
    rcases h with ⟨hn, qE⟩ | ⟨pt, rfl, hp, q, qE⟩
    · obtain ⟨t, ht, hk⟩ := hn.ty (K := K)
      exact ⟨v, rfl, v, .ty "str", t, .type "str", false, rfl, .ty _, ht, hk, false, rfl, iteT (qE _ (Same.refl _))⟩
    refine ⟨.str pt, rfl, .str pt, .ty "str", .type "str", .type "str", true, rfl, .ty _, .base (.str pt), kit_ty (by decide +kernel), true, rfl, iteF ?_⟩
    have sb : (Str.ofString "|" : Str) = tJ [124] := by decide +kernel
    obtain ⟨ts, spl, tne, tl, tlen⟩ := split_tJ pt
    refine ⟨.str pt, rfl, ⟨_, rfl⟩, pt, _, rfl, rfl, by decide +kernel, Nat.le_trans (show pt.length + 2 ≤ 20000 by omega) (by decide), fun l nl => ?_⟩
    rw [sb, spl]
    have s1 := same_new (o := .lst ((ts.map tJ).map V.str)) nl
    have el : (upd H l (.lst ((ts.map tJ).map V.str))) l = some (.lst ((ts.map tJ).map V.str)) := upd_same
    refine ⟨l, rfl, ⟨_, .inl (.inl el)⟩, fun D nD => ?_⟩
    generalize upd H l (.lst ((ts.map tJ).map V.str)) = H1 at s1 el nD
    refine lc_it (walk_list (K := K) (a := l) (xs := (ts.map tJ).map V.str)) (fun i H' => Same H1 H' ∧ ∃ as brs, H' D = some (.lst (vr as)) ∧ as.length = i ∧ brs.length = i ∧ (∀ (j : Nat) (br : List Itm) (t : List Nat), brs[j]? = some br → ts[j]? = some t → br ≠ [] ∧ BrT z.cps.toList br t) ∧ ∀ (j : Nat) (a : Addr) (br : List Itm), as[j]? = some a → brs[j]? = some br → a ≠ D ∧ ∃ bs, ItmsAt H' a bs br) ⟨same_new nD, [], [], upd_same, rfl, rfl, (fun j br t x => by simp at x), fun j a br x => by simp at x⟩ (fun i H' _ hW => .inl (.inl (hW.1 _ _ el))) (fun i x H2 H2' hi hW hY => ?_) (fun H2 hW => ?_)
    · obtain ⟨s2, as, brs, eD, la, lb, cb, ca⟩ := hW
      obtain ⟨rfl, hx⟩ := hY
      rw [List.length_map, List.length_map] at hi
      have htj := List.getElem?_eq_getElem hi
      rw [List.getElem?_map, List.getElem?_map, htj] at hx
      cases hx
      have ltj := tlen _ (List.mem_of_getElem? htj)
      refine ⟨rfl, lcyes ⟨.str z, rfl, .str (tJ ts[i]), rfl, z, ts[i], rfl, zl, zn, by omega, fun br H3 p bs b1 b2 s3 np ia => ?_, fun H3 s3 no => ?_⟩⟩
      · have eD3 := s3 _ _ eD
        have pD : p ≠ D := (ne_of_none eD np).symm
        have fit : (vr as).length < sizeLine := by rw [List.length_map]; exact fit6 (by omega)
        refine ⟨vr as, eD3, fit, fun b o eb => ?_, as ++ [p], brs ++ [br], by rw [upd_same, vr_snoc], by rw [List.length_append, la]; rfl, by rw [List.length_append, lb]; rfl, fun j br' t x1 x2 => ?_, ?_⟩
        · rw [upd_ne (ne_of_none eb nD)]
          exact s3 _ _ (s2 _ _ eb)
        · by_cases hj : j < brs.length
          · rw [List.getElem?_append_left hj] at x1
            exact cb j br' t x1 x2
          · have hj2 := (List.getElem?_eq_some_iff.mp x1).1
            rw [List.length_append] at hj2
            have hj2 : j < brs.length + 1 := hj2
            obtain rfl : j = brs.length := by omega
            rw [List.getElem?_append_right (Nat.le_refl _), Nat.sub_self] at x1
            cases x1
            rw [lb, htj] at x2
            cases x2
            exact ⟨b1, b2⟩
        · refine snoc_at (by rw [la, lb]) (fun j a br' x1 x2 => ?_) ⟨pD, bs, ia.put eD3 pD⟩
          obtain ⟨n, bs', z⟩ := ca j a br' x1 x2
          exact ⟨n, bs', (z.same s3).put eD3 n⟩
      · refine qE _ (s1.trans ((fun b o eb => s3 _ _ (s2 _ _ eb)) : Same H1 H3)) ?_
        rintro ⟨brs', ne, _, pa⟩
        obtain ⟨ts', sp', hl', ht'⟩ := patT_split zl pa ne
        rw [spl] at sp'
        have : ts = ts' := by
          have inj : ∀ {a b : List (List Nat)}, a.map tJ = b.map tJ → a = b := fun {a} => by
            induction a with
            | nil => intro b h; cases b with | nil => rfl | cons => exact nomatch h
            | cons x r ih =>
              intro b h
              cases b with
              | nil => exact nomatch h
              | cons y q =>
                obtain ⟨h1, h2⟩ := List.cons.inj h
                rw [tJ_inj h1, ih h2]
          exact inj sp'
        subst this
        have hb := List.getElem?_eq_getElem (l := brs') (i := i) (by omega)
        obtain ⟨n, bt⟩ := ht' i _ _ hb htj
        exact no ⟨_, n, bt⟩
    · obtain ⟨s2, as, brs, eD, la, lb, cb, ca⟩ := hW
      rw [List.length_map, List.length_map] at la lb
      have ba : BrsAt H2 D as brs := ⟨eD, by rw [la, lb], fun j a br x y => (ca j a br x y).2⟩
      have bne : brs ≠ [] := fun e => tne (List.eq_nil_of_length_eq_zero (by rw [← lb, e]; rfl))
      have pa : PatT z.cps.toList brs pt := patT_of_split spl lb cb hp
      refine ⟨.ref D, rfl, D, rfl, ⟨_, .inl (.inl eD)⟩, fun D2 nD2 => ?_⟩
      have isz : ∀ (i : Nat) (x : V), (vr as)[i]? = some x → ∃ (a : Addr) (br : List Itm) (bs : List Addr), x = .ref a ∧ brs[i]? = some br ∧ ItmsAt H2 a bs br := fun i x hx => by
        rw [List.getElem?_map] at hx
        cases hai : as[i]? with
        | none => rw [hai] at hx; cases hx
        | some a =>
          rw [hai] at hx
          cases hx
          have hi := (List.getElem?_eq_some_iff.mp hai).1
          have hbi := List.getElem?_eq_getElem (l := brs) (i := i) (by omega)
          obtain ⟨_, bs, z⟩ := ca i _ _ hai hbi
          exact ⟨a, _, bs, rfl, hbi, z⟩
      refine lc_it (walk_list (K := K) (a := D) (xs := vr as)) (fun i H' => Same H2 H' ∧ H' D2 = some (.lst (vi ((brs.take i).map List.length)))) ⟨same_new nD2, upd_same⟩ (fun i H' _ hW => .inl (.inl (hW.1 _ _ eD))) (fun i x H3 H3' hi hW hY => ?_) (fun H3 hW => ?_)
      · obtain ⟨s3, e3⟩ := hW
        obtain ⟨rfl, hx⟩ := hY
        rw [List.length_map] at hi
        obtain ⟨a, br, bs, rfl, hbi, z⟩ := isz i x hx
        refine ⟨rfl, lcyes ⟨.ref a, rfl, _, _, rfl, .inl (.inl (.inl (s3 _ _ z.1))), _, e3, ?_, fun b o eb => ?_, ?_⟩⟩
        · rw [List.length_map, List.length_map, List.length_take]
          exact fit6 (by omega)
        · rw [upd_ne (ne_of_none eb nD2)]
          exact s3 _ _ eb
        · have lb : (vr bs).length = br.length := by rw [List.length_map, z.2.1]
          rw [upd_same, take_snoc hbi, List.map_append, lb, vi_snoc]
          rfl
      · obtain ⟨s3, e3⟩ := hW
        rw [List.length_map, la, ← lb, List.take_of_length_le (Nat.le_refl _)] at e3
        have sum8 : ((brs.map List.length).map fun n : Nat => (n : Int)).sum = ((manyI brs : Nat) : Int) := by
          unfold manyI
          generalize brs.map List.length = l
          induction l with
          | nil => rfl
          | cons x r ih =>
            rw [List.map_cons, List.sum_cons, List.sum_cons, ih]
            omega
        have f8 : V.bl (decide ((8 : Int) < ((brs.map List.length).map fun n : Nat => (n : Int)).sum)) = V.bl (decide (8 < manyI brs)) := by
          rw [sum8]
          congr 1
          exact decide_eq_decide.mpr (by omega)
        have s03 : Same H H3 := s1.trans (s2.trans s3)
        refine ⟨D2, (brs.map List.length).map fun n : Nat => (n : Int), rfl, ?_, _, _, rfl, rfl, _, f8, ?_⟩
        · rw [vi_castJ] at e3
          exact .inl (.inl e3)
        by_cases h8 : 8 < manyI brs
        · rw [decide_eq_true h8]
          refine iteT (qE _ s03 ?_)
          rintro ⟨brs', ne, h8', pa'⟩
          obtain ⟨ts', sp', hl', ht'⟩ := patT_split zl pa' ne
          rw [spl] at sp'
          have lts : ts.length = ts'.length := by
            have := congrArg List.length sp'
            rwa [List.length_map, List.length_map] at this
          have : brs = brs' := by
            apply List.ext_getElem?
            intro j
            by_cases hj : j < ts.length
            · have g1 := List.getElem?_eq_getElem (l := brs) (i := j) (by omega)
              have g2 := List.getElem?_eq_getElem (l := brs') (i := j) (by omega)
              have t1 := List.getElem?_eq_getElem hj
              have t2 := List.getElem?_eq_getElem (l := ts') (i := j) (by omega)
              have te : ts[j] = ts'[j] := by
                have := congrArg (fun l => l[j]?) sp'
                simp only [List.getElem?_map, t1, t2, Option.map_some] at this
                exact tJ_inj (Option.some.inj this)
              have b1 := (cb j _ _ g1 t1).2
              have b2 := (ht' j _ _ g2 t2).2
              rw [← te] at b2
              rw [g1, g2, b1.uniq zl b2]
            · rw [List.getElem?_eq_none (by omega), List.getElem?_eq_none (by omega)]
          rw [this] at h8
          omega
        · rw [decide_eq_false h8]
          exact iteF ⟨.ref D, rfl, q brs H3 D as ⟨bne, by omega, pa⟩ s03 (s1.free nD) (ba.same s3)⟩
end
end LH

namespace LH
open PySem PySem.Spec PyProof.Rows L2 NdefX LamX
/-! ### places in the heap -/
def PlsAt (H : Hp) (p : Addr) (as : List Addr) (ps : List Plc) : Prop := H p = some (.lst (vr as)) ∧ as.length = ps.length ∧ ∀ (i : Nat) (a : Addr) (q : Plc), as[i]? = some a → ps[i]? = some q → H a = some (.tup [.str (tJ q.1), .bl q.2])
theorem PlsAt.same {H H' : Hp} {p : Addr} {as : List Addr} {ps : List Plc} (s : Same H H') (h : PlsAt H p as ps) : PlsAt H' p as ps := ⟨s _ _ h.1, h.2.1, fun i a it x y => s _ _ (h.2.2 i a it x y)⟩
theorem PlsAt.put {H : Hp} {p D : Addr} {as : List Addr} {ps : List Plc} {xs ys : List V} (h : PlsAt H p as ps) (e : H D = some (.lst xs)) (n : p ≠ D) : PlsAt (upd H D (.lst ys)) p as ps := ⟨by rw [upd_ne n]; exact h.1, h.2.1, fun i a it x y => by
  have := h.2.2 i a it x y
  rw [upd_ne (fun z => by rw [z, e] at this; cases this)]
  exact this⟩
theorem PlsAt.snoc {H : Hp} {p t : Addr} {as : List Addr} {ps : List Plc} (h : PlsAt H p as ps) (nt : H t = none) (q : Plc) : PlsAt (upd (upd H t (.tup [.str (tJ q.1), .bl q.2])) p (.lst (vr as ++ [.ref t]))) p (as ++ [t]) (ps ++ [q]) := by
  have s := same_new (o := .tup [V.str (tJ q.1), V.bl q.2]) nt
  have lt := ne_of_none h.1 nt
  refine ⟨by rw [upd_same, vr_snoc], by rw [List.length_append, List.length_append, h.2.1]; rfl, snoc_at h.2.1 (fun j a it x1 x2 => ?_) ?_⟩
  · have := (h.same s).2.2 j a it x1 x2
    rw [upd_ne (fun z => by rw [z, s _ _ h.1] at this; cases this)]
    exact this
  · rw [upd_ne lt.symm, upd_same]
section
variable {P : Program} {w : World} {K : PySem.W.Frag} {mg : Str → Option Value} {base : Heap}
def sp_places_of : Sp := fun vs H Q _ => ∃ (b : Addr) (bas : List Addr) (brs : List (List Itm)), vs = [.ref b] ∧ BrsAt H b bas brs ∧ (∀ br ∈ brs, ∀ i ∈ br, ItOk i) ∧ (plA brs).length ≤ 1000 ∧ brs.length ≤ 1000 ∧
  ∀ H' p l st as, Same H H' → H' p = some (.tup [.ref l, .ref st]) → PlsAt H' l as (plA brs) → H' st = some (.lst (vi (stI brs))) → Q (.ref p) H'
theorem plA_take {brs : List (List Itm)} {j : Nat} {br : List Itm} (h : brs[j]? = some br) : plA (brs.take (j + 1)) = plA (brs.take j) ++ plB br := by
  rw [take_snoc h]
  unfold plA
  rw [List.flatMap_append]
  simp
theorem plA_pre (brs : List (List Itm)) (j : Nat) : (plA (brs.take j)).length ≤ (plA brs).length := by
  have : plA brs = plA (brs.take j) ++ plA (brs.drop j) := by
    unfold plA
    rw [← List.flatMap_append, List.take_append_drop]
  rw [this, List.length_append]
  omega
theorem plI_pre (br : List Itm) (j : Nat) : ((br.take j).flatMap plI).length ≤ (br.flatMap plI).length := by
  have : br.flatMap plI = (br.take j).flatMap plI ++ (br.drop j).flatMap plI := by
    rw [← List.flatMap_append, List.take_append_drop]
  rw [this, List.length_append]
  omega
def stN (brs : List (List Itm)) (n : Nat) : List Nat := (List.range n).map fun j => (plA (brs.take j)).length
theorem stN_succ (brs : List (List Itm)) (n : Nat) : stN brs (n + 1) = stN brs n ++ [(plA (brs.take n)).length] := by
  unfold stN
  rw [List.range_succ, List.map_append]
  rfl
theorem ok_places_of (T : TX K mg) : FnOk P w K mg base CX0 1 T.a_places_of T.fd_places_of ["branches"] sp_places_of := by
  refine T.F_places_of.ok sc_places_of (fun vs H Q E h => ?_) (fun cdv A outer s0 H vs Q E hr h => ?_)
  · obtain ⟨b, bas, brs, rfl, _⟩ := h
    rfl
  · obtain ⟨b, bas, brs, rfl, ba, ok, hp, hb8, q⟩ := h
    refine ⟨_, (pss_cons (ps_set (i := 1) sc_places_of.nd rfl (Or.inl rfl) (pe_lst pa_nil))
      (pss_cons (ps_set (i := 2) sc_places_of.nd rfl (Or.inl rfl) (pe_lst pa_nil))
      (pss_cons (ps_for PassesOwn.never rfl (pi_listK K rfl (pv 0)) (pg_name (i := 3) sc_places_of.nd rfl (Or.inl rfl))
        (pss_cons (ps_expr (pe_bmK K rfl PySem.F.plainAttrs_list PySem.F.slot_list_append PySem.F.type_list_append mt_append (pv 2) (pa_cons (pe_callB (call_lenK K rfl) (by rfl) T.m_len (by decide +kernel) (pa_cons (pv 1) pa_nil)) pa_nil)))
          (pss_cons (ps_for PassesOwn.never rfl (pi_listK K rfl (pv 3)) (pg_tupK (n := 2) K rfl (by rfl) (pgs_cons (pg_name (i := 4) sc_places_of.nd rfl (Or.inl rfl)) (pgs_cons (pg_name (i := 5) sc_places_of.nd rfl (Or.inl rfl)) pgs_nil)))
            (C8.pss_cut (ps_if (pt_cmpR op_ne (pv 5) pe_str (nomark _))
                (pss_one (ps_expr (pe_bmK K rfl PySem.F.plainAttrs_list PySem.F.slot_list_append PySem.F.type_list_append mt_append (pv 1) (pa_cons (pe_tup (pa_cons (pv 4) (pa_cons pe_bl pa_nil))) pa_nil))))
                pss_nil)
              (pss_one (ps_if (pt_cmpR op_ne (pv 5) pe_str (nomark _))
                (pss_one (ps_expr (pe_bmK K rfl PySem.F.plainAttrs_list PySem.F.slot_list_append PySem.F.type_list_append mt_append (pv 1) (pa_cons (pe_tup (pa_cons (pv 4) (pa_cons pe_bl pa_nil))) pa_nil))))
                pss_nil))))
          (pss_one (ps_expr (pe_bmK K rfl PySem.F.plainAttrs_list PySem.F.slot_list_append PySem.F.type_list_append mt_append (pv 1) (pa_cons (pe_tup (pa_cons pe_str (pa_cons pe_bl pa_nil))) pa_nil)))))))
      (pss_one (ps_ret (pe_tup (pa_cons (pv 1) (pa_cons (pv 2) pa_nil)))))))), ?_⟩
    have ss : (Str.ofString "*" : Str) = tJ [42] := by decide +kernel
    have bl := ba.2.1
    refine ⟨by show 0 ≤ sizeLine; decide, fun l nl => ⟨by show 0 ≤ sizeLine; decide, fun st nst => ?_⟩⟩
    have s1 := same_new (o := .lst []) nl
    have s2 := same_new (o := .lst []) nst
    have el0 : (upd H l (.lst [])) l = some (.lst []) := upd_same
    have el : (upd (upd H l (.lst [])) st (.lst [])) l = some (.lst (vr [])) := s2 _ _ el0
    have est : (upd (upd H l (.lst [])) st (.lst [])) st = some (.lst (vi [])) := upd_same
    have ls : l ≠ st := ne_of_none el0 nst
    have fst : H st = none := s1.free nst
    have sm0 := s1.trans s2
    generalize upd (upd H l (.lst [])) st (.lst []) = H1 at sm0 el est
    have bn : b ≠ l := ne_of_none ba.1 nl
    refine ⟨.ref b, rfl, b, rfl, ⟨_, .inl (.inl (sm0 _ _ ba.1))⟩, ?_⟩
    refine for_it (walk_list (K := K) (a := b) (xs := vr bas)) (fun j σ H' => (Same H H' ∧ (∃ as, PlsAt H' l as (plA (brs.take j))) ∧ H' st = some (.lst (vi (stN brs j)))) ∧ ∃ y3 y4 y5, σ = [some (.ref b), some (.ref l), some (.ref st), y3, y4, y5]) ⟨⟨sm0, ⟨[], el, rfl, fun i a q x => by simp at x⟩, est⟩, none, none, none, rfl⟩ (fun j σ H' _ hW => .inl (.inl (hW.1.1 _ _ ba.1))) (fun j x σ H2 H2' hj hW hY => ?_) (fun σ H2 hW => ?_)
    · obtain ⟨⟨s3, ⟨as, pa⟩, es⟩, y3, y4, y5, rfl⟩ := hW
      obtain ⟨rfl, hx⟩ := hY
      rw [List.length_map] at hj
      have haj := List.getElem?_eq_getElem hj
      rw [List.getElem?_map, haj] at hx
      cases hx
      have hbj := List.getElem?_eq_getElem (l := brs) (i := j) (by omega)
      obtain ⟨bs, ia⟩ := ba.2.2 j _ _ haj hbj
      have okb := ok _ (List.getElem_mem (l := brs) (n := j) (by omega))
      generalize brs[j]'(by omega) = br at hbj ia okb
      generalize bas[j] = ab at haj ia
      have pre := plA_pre brs (j + 1)
      rw [plA_take hbj, List.length_append, plB_len] at pre
      have lpa : (vr as).length = (plA (brs.take j)).length := by rw [List.length_map]; exact pa.2.1
      have lst_ : (stN brs j).length = j := by unfold stN; rw [List.length_map, List.length_range]
      -- starts.append(len(places))
      refine ⟨.ref st, rfl, .inl ⟨rfl, _, .inl (.inl es)⟩, .ref l, rfl, l, _, rfl, .inl (.inl (.inl pa.1)), st, _, _, rfl, rfl, es, by rw [List.length_map, lst_]; exact fit6 (by omega), ?_⟩
      have s4 : Same H (upd H2' st (.lst (vi (stN brs j) ++ [.int ((vr as).length : Int)]))) := fun b' o eb => by
        rw [upd_ne (ne_of_none eb fst)]
        exact s3 _ _ eb
      have pa4 := pa.put (ys := vi (stN brs j) ++ [.int ((vr as).length : Int)]) es ls
      have es4 : (upd H2' st (.lst (vi (stN brs j) ++ [.int ((vr as).length : Int)]))) st = some (.lst (vi (stN brs (j + 1)))) := by
        rw [upd_same, lpa, stN_succ, vi_snoc]
      generalize upd H2' st (.lst (vi (stN brs j) ++ [.int ((vr as).length : Int)])) = H3 at s4 pa4 es4
      have ia4 := ia.same s4
      -- for signs, mark in items
      refine ⟨.ref ab, rfl, ab, rfl, ⟨_, .inl (.inl ia4.1)⟩, ?_⟩
      refine for_it (walk_list (K := K) (a := ab) (xs := vr bs)) (fun i σ H' => (Same H H' ∧ (∃ as, PlsAt H' l as (plA (brs.take j) ++ (br.take i).flatMap plI)) ∧ H' st = some (.lst (vi (stN brs (j + 1))))) ∧ ∃ y4 y5, σ = [some (.ref b), some (.ref l), some (.ref st), some (.ref ab), y4, y5]) ⟨⟨s4, ⟨as, by rw [List.take_zero, List.flatMap_nil, List.append_nil]; exact pa4⟩, es4⟩, y4, y5, rfl⟩ (fun i σ H' _ hW => .inl (.inl (ia.same hW.1.1).1)) (fun i x σ H4 H4' hi hW hY => ?_) (fun σ H4 hW => ?_)
      · obtain ⟨⟨s5, ⟨as5, pa5⟩, es5⟩, y4, y5, rfl⟩ := hW
        obtain ⟨rfl, hx⟩ := hY
        rw [List.length_map] at hi
        have hai := List.getElem?_eq_getElem hi
        rw [List.getElem?_map, hai] at hx
        cases hx
        have lbs := ia.2.1
        have hii := List.getElem?_eq_getElem (l := br) (i := i) (by omega)
        have ei := s5 _ _ (ia.2.2 i _ _ hai hii)
        have oki := okb _ (List.getElem_mem (l := br) (n := i) (by omega))
        generalize br[i]'(by omega) = it at hii ei oki
        generalize bs[i] = ti at hai ei
        have pre2 := plI_pre br (i + 1)
        rw [take_snoc hii, List.flatMap_append, List.length_append] at pre2
        have e1 : List.flatMap plI [it] = plI it := by simp
        rw [e1] at pre2
        have nm : (br.take (i + 1)).flatMap plI = (br.take i).flatMap plI ++ plI it := by rw [take_snoc hii, List.flatMap_append, e1]
        have few : as5.length ≤ 100000 := by
          rw [pa5.2.1, List.length_append]
          omega
        refine ⟨ti, _, rfl, .inl (.inl ei), rfl, .str (tJ it.s), _, rfl, .str (tJ (mkI it.m)), [], rfl, rfl, ?_⟩
        refine ⟨fun σ' H' => (Same H H' ∧ (∃ as, PlsAt H' l as (plA (brs.take j) ++ (br.take i).flatMap plI ++ if it.m = 1 then [] else [(it.s, false)])) ∧ H' st = some (.lst (vi (stN brs (j + 1))))) ∧ σ' = [some (.ref b), some (.ref l), some (.ref st), some (.ref ab), some (.str (tJ it.s)), some (.str (tJ (mkI it.m)))], ?_, fun σ' H5 hM => ?_⟩
        · have t1 : V.bl (!decide (V.str (tJ (mkI it.m)) = V.str (Str.ofString "*"))) = V.bl (!decide (it.m = 1)) := by
            rw [ss, tJ_eq]
            congr 2
            refine decide_eq_decide.mpr ?_
            have := oki.1
            unfold mkI
            split
            · exact ⟨fun z => (nomatch z), fun z => by omega⟩
            · split
              · exact ⟨fun _ => ‹_›, fun _ => rfl⟩
              · exact ⟨fun z => by simp at z, fun z => by omega⟩
          refine ⟨.str (tJ (mkI it.m)), rfl, rfl, _, t1, ite2 (fun y => ?_) (fun y => ?_)⟩
          · have m1 : ¬ it.m = 1 := fun z => by rw [z] at y; exact nomatch y
            refine ⟨.ref l, rfl, .inl ⟨rfl, _, .inl (.inl pa5.1)⟩, .str (tJ it.s), rfl, by show 2 ≤ sizeLine; decide, fun t nt => ?_⟩
            have s6 := same_new (o := .tup [V.str (tJ it.s), V.bl false]) nt
            refine ⟨l, _, _, rfl, rfl, s6 _ _ pa5.1, by rw [List.length_map]; exact fit6 few, ⟨fun b' o eb => ?_, ⟨as5 ++ [t], ?_⟩, ?_⟩, rfl⟩
            · rw [upd_ne (ne_of_none eb nl)]
              exact s6 _ _ (s5 _ _ eb)
            · rw [if_neg m1]
              exact pa5.snoc nt (it.s, false)
            · rw [upd_ne ls.symm]
              exact s6 _ _ es5
          · have m1 : it.m = 1 := Decidable.byContradiction fun z => y (by rw [decide_eq_false z]; rfl)
            refine ⟨⟨s5, ⟨as5, ?_⟩, es5⟩, rfl⟩
            rw [if_pos m1, List.append_nil]
            exact pa5
        · obtain ⟨⟨s7, ⟨as7, pa7⟩, es7⟩, rfl⟩ := hM
          have few7 : as7.length ≤ 100000 := by
            rw [pa7.2.1, List.length_append, List.length_append]
            have : (if it.m = 1 then ([] : List Plc) else [(it.s, false)]).length ≤ 1 := by split <;> simp
            omega
          have t1 : V.bl (!decide (V.str (tJ (mkI it.m)) = V.str (Str.ofString ""))) = V.bl (!decide (it.m = 0)) := by
            rw [s_none, tJ_eq]
            congr 2
            refine decide_eq_decide.mpr ?_
            unfold mkI
            split
            · exact ⟨fun _ => ‹_›, fun _ => rfl⟩
            · split
              · exact ⟨fun z => (nomatch z), fun z => absurd z ‹_›⟩
              · exact ⟨fun z => (nomatch z), fun z => absurd z ‹_›⟩
          have next : ∀ H6, Same H H6 → (∃ as, PlsAt H6 l as (plA (brs.take j) ++ (br.take i).flatMap plI ++ (if it.m = 1 then [] else [(it.s, false)]) ++ if it.m = 0 then [] else [(it.s, true)])) → H6 st = some (.lst (vi (stN brs (j + 1)))) → (Same H H6 ∧ (∃ as, PlsAt H6 l as (plA (brs.take j) ++ (br.take (i + 1)).flatMap plI)) ∧ H6 st = some (.lst (vi (stN brs (j + 1))))) ∧ ∃ y4 y5, [some (V.ref b), some (.ref l), some (.ref st), some (.ref ab), some (.str (tJ it.s)), some (.str (tJ (mkI it.m)))] = [some (.ref b), some (.ref l), some (.ref st), some (.ref ab), y4, y5] := fun H6 a b' c => ⟨⟨a, by
            obtain ⟨as, z⟩ := b'
            refine ⟨as, ?_⟩
            rw [nm]
            unfold plI
            rw [← List.append_assoc, ← List.append_assoc]
            exact z, c⟩, _, _, rfl⟩
          refine ⟨.str (tJ (mkI it.m)), rfl, rfl, _, t1, ite2 (fun y => ?_) (fun y => ?_)⟩
          · have m0 : ¬ it.m = 0 := fun z => by rw [z] at y; exact nomatch y
            refine ⟨.ref l, rfl, .inl ⟨rfl, _, .inl (.inl pa7.1)⟩, .str (tJ it.s), rfl, by show 2 ≤ sizeLine; decide, fun t nt => ?_⟩
            have s8 := same_new (o := .tup [V.str (tJ it.s), V.bl true]) nt
            refine ⟨l, _, _, rfl, rfl, s8 _ _ pa7.1, by rw [List.length_map]; exact fit6 few7, next _ (fun b' o eb => ?_) ⟨as7 ++ [t], ?_⟩ ?_⟩
            · rw [upd_ne (ne_of_none eb nl)]
              exact s8 _ _ (s7 _ _ eb)
            · rw [if_neg m0]
              exact pa7.snoc nt (it.s, true)
            · rw [upd_ne ls.symm]
              exact s8 _ _ es7
          · have m0 : it.m = 0 := Decidable.byContradiction fun z => y (by rw [decide_eq_false z]; rfl)
            refine next _ s7 ⟨as7, ?_⟩ es7
            rw [if_pos m0, List.append_nil]
            exact pa7
      · obtain ⟨⟨s5, ⟨as5, pa5⟩, es5⟩, y4, y5, rfl⟩ := hW
        rw [List.length_map, ia.2.1, List.take_of_length_le (Nat.le_refl _)] at pa5
        have few : as5.length ≤ 100000 := by
          rw [pa5.2.1, List.length_append]
          omega
        refine ⟨.ref l, rfl, .inl ⟨rfl, _, .inl (.inl pa5.1)⟩, by show 2 ≤ sizeLine; decide, fun t nt => ?_⟩
        have s6 := same_new (o := .tup [V.str (Str.ofString ""), V.bl false]) nt
        refine ⟨l, _, _, rfl, rfl, s6 _ _ pa5.1, by rw [List.length_map]; exact fit6 few, ⟨fun b' o eb => ?_, ⟨as5 ++ [t], ?_⟩, ?_⟩, some (.ref ab), y4, y5, rfl⟩
        · rw [upd_ne (ne_of_none eb nl)]
          exact s6 _ _ (s5 _ _ eb)
        · rw [plA_take hbj]
          unfold plB
          rw [← List.append_assoc, s_none]
          exact pa5.snoc nt ([], false)
        · rw [upd_ne ls.symm]
          exact s6 _ _ es5
    · obtain ⟨⟨s3, ⟨as, pa⟩, es⟩, y3, y4, y5, rfl⟩ := hW
      rw [List.length_map, bl] at pa es
      rw [List.take_of_length_le (Nat.le_refl _)] at pa
      refine ⟨.ref l, rfl, .ref st, rfl, by show 2 ≤ sizeLine; decide, fun p np => ?_⟩
      have s6 := same_new (o := .tup [V.ref l, V.ref st]) np
      exact q _ p l st as (s3.trans s6) upd_same (pa.same s6) (s6 _ _ es)
end
end LH

namespace LH
open PySem PySem.Spec PyProof.Rows L2 NdefX LamX
/-! ### let_on, read -/
def uad (ks : List Nat) (q : Nat) : List Nat := if q ∈ ks then ks else ks ++ [q]
theorem mem_uad {ks : List Nat} {q x : Nat} : x ∈ uad ks q ↔ x ∈ ks ∨ x = q := by
  unfold uad
  split
  · exact ⟨.inl, fun h => h.elim id fun e => e ▸ ‹_›⟩
  · rw [List.mem_append, List.mem_singleton]
theorem nd_uad {ks : List Nat} {q : Nat} (h : ks.Nodup) : (uad ks q).Nodup := by
  unfold uad
  split
  · exact h
  · rename_i n
    rw [List.nodup_append]
    exact ⟨h, by simp, fun a ha b hb e => n (by rw [← List.mem_singleton.mp hb, ← e]; exact ha)⟩
theorem putK_uad (ks : List Nat) (q : Nat) : putK (dk ks) (Sum.inl (q : Int) : Key) (.bl true) = dk (uad ks q) := by
  unfold uad
  split
  · exact putK_dk_in ‹_›
  · exact putK_dk ‹_›
theorem uad_len (ks : List Nat) (q : Nat) : (uad ks q).length ≤ ks.length + 1 := by
  unfold uad
  split
  · omega
  · rw [List.length_append]; exact Nat.le_refl _
theorem sort_clo {ps : List Plc} {ns ks : List Nat} {ys : List Int} (nd : ks.Nodup) (hm : ∀ q, q ∈ ks ↔ q ∈ cloK ps ns) (pm : ys.Perm (ks.map fun n : Nat => (n : Int))) (pw : ys.Pairwise (· ≤ ·)) : ys = (cloK ps ns).map fun n : Nat => (n : Int) := by
  have ndc : (cloK ps ns).Nodup := List.nodup_range.filter _
  have p2 : ks.Perm (cloK ps ns) := (List.perm_ext_iff_of_nodup nd ndc).mpr hm
  have p3 := pm.trans (p2.map fun n : Nat => (n : Int))
  refine List.Perm.eq_of_pairwise (le := fun a b : Int => a ≤ b) (fun a b _ _ h1 h2 => by omega) pw ?_ p3
  rw [List.pairwise_map]
  have : (cloK ps ns).Pairwise (· < ·) := List.pairwise_lt_range.filter _
  exact this.imp fun h => by omega
theorem vr_gJ {as : List Addr} {i : Nat} {a : Addr} (h : as[i]? = some a) : (vr as)[i]? = some (.ref a) := by
  rw [List.getElem?_map, h]
  rfl
theorem cloK_len (ps : List Plc) (ns : List Nat) : (cloK ps ns).length ≤ ps.length := by
  have := List.length_filter_le (fun q => decide (∃ t ∈ ns, Lnk ps t q)) (List.range ps.length)
  rwa [List.length_range] at this
section
variable {P : Program} {w : World} {K : PySem.W.Frag} {mg : Str → Option Value} {base : Heap}
def sp_let_on : Sp := fun vs H Q _ => ∃ (pl nl : Addr) (as : List Addr) (ps : List Plc) (ns : List Nat), vs = [.ref pl, .ref nl] ∧ PlsAt H pl as ps ∧ PlOk ps ∧ ps.length < 64 ∧ H nl = some (.lst (vi ns)) ∧ ns.length ≤ 10000 ∧ (∀ n ∈ ns, n < ps.length) ∧
  ∀ H' p, Same H H' → H p = none → H' p = some (.tup (vi (cloK ps ns))) → Q (.ref p) H'
theorem ok_let_on (T : TX K mg) : FnOk P w K mg base CX0 1 T.a_let_on T.fd_let_on ["places", "numbers"] sp_let_on := by
  refine T.F_let_on.ok sc_let_on (fun vs H Q E h => ?_) (fun cdv A outer s0 H vs Q E hr h => ?_)
  · obtain ⟨pl, nl, as, ps, ns, rfl, _⟩ := h
    rfl
  · obtain ⟨pl, nl, as, ps, ns, rfl, pa, po, h64, hn, hnl, hns, q⟩ := h
    refine ⟨_, (pss_cons (ps_set (i := 2) sc_let_on.nd rfl (Or.inl rfl) pe_dnewK)
      (pss_cons (ps_for PassesOwn.never rfl (pi_listK K rfl (pv 1)) (pg_name (i := 3) sc_let_on.nd rfl (Or.inl rfl))
        (pss_cons (ps_set (i := 4) sc_let_on.nd rfl (Or.inl rfl) (pv 3))
          (pss_cons (ps_dput (hu_of hr) (pv 2) (pv 4) pe_bl rfl)
          (pss_one (ps_while PassesOwn.never (pt_val (pe_ix (ix_tupK K rfl) (pe_ix (ix_listK K rfl) (pv 0) (pv 4) (fun _ _ => rfl)) pe_int (fun _ _ => rfl)))
            (pss_cons (ps_aug (i := 4) sc_let_on.nd rfl (Or.inl rfl) pe_int ip_add)
              (pss_one (ps_dput (hu_of hr) (pv 2) (pv 4) pe_bl rfl))))))))
      (pss_one (ps_ret (pe_callTy (call_tupleK K rfl) (by rfl) T.m_tuple (by decide +kernel) (pa_cons (pe_callB (call_sortedDI rfl) (by rfl) T.m_sorted (by decide +kernel) (pa_cons (pv 2) pa_nil)) pa_nil)))))), ?_⟩
    refine fun d nd => ?_
    have s1 := same_new (o := .dK []) nd
    have ed : (upd H d (.dK [])) d = some (.dK (dk [])) := upd_same
    generalize upd H d (.dK []) = H1 at s1 ed
    have al := pa.2.1
    refine ⟨.ref nl, rfl, nl, rfl, ⟨_, .inl (.inl (s1 _ _ hn))⟩, ?_⟩
    refine for_it (walk_list (K := K) (a := nl) (xs := vi ns)) (fun i σ H' => (Same H H' ∧ ∃ ks : List Nat, H' d = some (.dK (dk ks)) ∧ ks.Nodup ∧ ∀ q, q ∈ ks ↔ q < ps.length ∧ ∃ t ∈ ns.take i, Lnk ps t q) ∧ ∃ y3 y4, σ = [some (.ref pl), some (.ref nl), some (.ref d), y3, y4]) ⟨⟨s1, [], ed, List.nodup_nil, fun q => ⟨fun h => (nomatch h), fun h => by
      obtain ⟨_, t, ht, _⟩ := h
      rw [List.take_zero] at ht
      exact nomatch ht⟩⟩, none, none, rfl⟩ (fun i σ H' _ hW => .inl (.inl (hW.1.1 _ _ hn))) (fun i x σ H2 H2' hi hW hY => ?_) (fun σ H2 hW => ?_)
    · obtain ⟨⟨s2, ks, ek, ndk, mk⟩, y3, y4, rfl⟩ := hW
      obtain ⟨rfl, hx⟩ := hY
      obtain ⟨n, hn', rfl⟩ := int_at hx
      have hnp := hns n (List.mem_of_getElem? hn')
      have small : ∀ l : List Nat, l.Nodup → (∀ q ∈ l, q < ps.length) → l.length ≤ 64 := fun l nd' h => by
        have := len_le_of_sub nd' (ys := List.range ps.length) fun x hx => List.mem_range.mpr (h x hx)
        rw [List.length_range] at this
        omega
      have fitd : ∀ l : List Nat, l.Nodup → (∀ q ∈ l, q < ps.length) → (dk l).length < sizeLine := fun l nd' h => by
        rw [List.length_map]
        exact fit6 (by have := small l nd' h; omega)
      have ltk : ∀ q ∈ ks, q < ps.length := fun q hq => ((mk q).mp hq).1
      refine ⟨.int (n : Int), rfl, .ref d, rfl, .int (n : Int), rfl, d, _, rfl, DPut.k (k := Sum.inl (n : Int)) ek (fitd ks ndk ltk), ?_⟩
      rw [putK_uad]
      have s3 : Same H (upd H2' d (.dK (dk (uad ks n)))) := fun b o eb => by
        rw [upd_ne (ne_of_none eb nd)]
        exact s2 _ _ eb
      have ed3 : (upd H2' d (.dK (dk (uad ks n)))) d = some (.dK (dk (uad ks n))) := upd_same
      generalize upd H2' d (.dK (dk (uad ks n))) = H3 at s3 ed3
      refine ⟨fun m σ H' => ∃ (at_ : Nat) (ks' : List Nat), m + at_ = ps.length ∧ n ≤ at_ ∧ at_ < ps.length ∧ (∀ r, n ≤ r → r < at_ → stP ps r = true) ∧ Same H H' ∧ H' d = some (.dK (dk ks')) ∧ ks'.Nodup ∧ (∀ q, q ∈ ks' ↔ q ∈ ks ∨ (n ≤ q ∧ q ≤ at_)) ∧ σ = [some (.ref pl), some (.ref nl), some (.ref d), some (.int (n : Int)), some (.int (at_ : Int))],
        ⟨ps.length - n, n, uad ks n, by omega, Nat.le_refl _, hnp, fun r h1 h2 => by omega, s3, ed3, nd_uad ndk, fun q => by
          rw [mem_uad]
          exact ⟨fun h => h.imp id fun e => ⟨by omega, by omega⟩, fun h => h.imp id fun e => by omega⟩, rfl⟩, fun m σ H4 hW => ?_⟩
      obtain ⟨at_, ks', hm, h1, h2, h3, s4, ed4, nd4, mk4, rfl⟩ := hW
      have haa := List.getElem?_eq_getElem (l := as) (i := at_) (by omega)
      have hpp := plA_get h2
      have et := s4 _ _ (pa.2.2 _ _ _ haa hpp)
      have lt4 : ∀ q ∈ ks', q < ps.length := fun q hq => by
        rcases (mk4 q).mp hq with h | h
        · exact ltk q h
        · omega
      refine ⟨.ref pl, rfl, .int (at_ : Int), rfl, pl, _, (at_ : Int), .ref as[at_], rfl, rfl, .inl (.inl (s4 _ _ pa.1)), atI_nat (vr_gJ haa), as[at_], _, 1, .bl (stP ps at_), rfl, rfl, .inl (.inl et), rfl, _, rfl, ?_⟩
      cases hs : stP ps at_ with
      | true =>
        have nx := po.last at_ hs
        refine iteT ⟨fun σ' H' => Same H H' ∧ H' d = some (.dK (dk (uad ks' (at_ + 1)))) ∧ σ' = [some (.ref pl), some (.ref nl), some (.ref d), some (.int (n : Int)), some (.int ((at_ + 1 : Nat) : Int))], fun σ' H' hN => ?_, ?_⟩
        · obtain ⟨r1, r2, rfl⟩ := hN
          refine ⟨m - 1, by omega, at_ + 1, uad ks' (at_ + 1), by omega, by omega, nx, fun r a1 a2 => ?_, r1, r2, nd_uad nd4, fun q => ?_, rfl⟩
          · by_cases e : r = at_
            · rw [e]; exact hs
            · exact h3 r a1 (by omega)
          · rw [mem_uad, mk4]
            constructor
            · rintro ((h | h) | h)
              · exact .inl h
              · exact .inr ⟨h.1, by omega⟩
              · exact .inr ⟨by omega, by omega⟩
            · rintro (h | h)
              · exact .inl (.inl h)
              · by_cases e : q = at_ + 1
                · exact .inr e
                · exact .inl (.inr ⟨h.1, by omega⟩)
        have e1 : (at_ : Int) + 1 = ((at_ + 1 : Nat) : Int) := by omega
        refine ⟨.int (at_ : Int), rfl, _, _, rfl, rfl, ?_⟩
        refine ⟨.ref d, rfl, .int ((at_ : Int) + 1), rfl, d, upd H4 d (.dK (putK (dk ks') (Sum.inl ((at_ + 1 : Nat) : Int)) (.bl true))), rfl, ?_, ?_⟩
        · rw [e1]
          exact DPut.k (k := Sum.inl ((at_ + 1 : Nat) : Int)) ed4 (fitd ks' nd4 lt4)
        rw [putK_uad]
        refine ⟨fun b o eb => ?_, upd_same, rfl⟩
        rw [upd_ne (ne_of_none eb nd)]
        exact s4 _ _ eb
      | false =>
        refine iteF ⟨⟨s4, ks', ed4, nd4, fun q => ?_⟩, _, _, rfl⟩
        rw [mk4, mk, take_snoc hn']
        constructor
        · rintro (⟨g1, t, g2, g3⟩ | ⟨g1, g2⟩)
          · exact ⟨g1, t, List.mem_append_left _ g2, g3⟩
          · exact ⟨by omega, n, List.mem_append_right _ (List.mem_singleton.mpr rfl), g1, fun r a1 a2 => h3 r a2 (by omega)⟩
        · rintro ⟨g1, t, g2, g3⟩
          rcases List.mem_append.mp g2 with g2 | g2
          · exact .inl ⟨g1, t, g2, g3⟩
          · obtain rfl := List.mem_singleton.mp g2
            refine .inr ⟨g3.1, ?_⟩
            refine Nat.le_of_not_lt fun z => ?_
            rw [g3.2 at_ z h1] at hs
            exact nomatch hs
    · obtain ⟨⟨s2, ks, ek, ndk, mk⟩, y3, y4, rfl⟩ := hW
      rw [List.length_map, List.take_of_length_le (Nat.le_refl _)] at mk
      have lk : ks.length < 64 := by
        have := len_le_of_sub ndk (ys := List.range ps.length) fun x hx => List.mem_range.mpr ((mk x).mp hx).1
        rw [List.length_range] at this
        omega
      refine ⟨.ref d, rfl, d, dk ks, ks.map fun n : Nat => (n : Int), rfl, .inl ek, by rw [List.map_map, List.map_map]; rfl, by rw [List.length_map]; exact lk, fun ys p pm pw np => ?_⟩
      have ey := sort_clo ndk (fun q => (mk q).trans mem_cloK.symm) pm pw
      have s3 := same_new (o := .lst (ys.map V.int)) np
      have ep : (upd H2 p (.lst (ys.map V.int))) p = some (.lst (vi (cloK ps ns))) := by
        rw [upd_same, ey, List.map_map]
        rfl
      generalize upd H2 p (.lst (ys.map V.int)) = H3 at s3 ep
      refine ⟨p, _, rfl, .inl ⟨.inl (.inl ep), fun p2 np2 => ?_⟩⟩
      exact q _ p2 ((s2.trans s3).trans (same_new np2)) ((s2.trans s3).free np2) upd_same
theorem nxtK_snoc (ps : List Plc) (l : List Nat) (q c : Nat) : nxtK ps (l ++ [q]) c = nxtK ps l c ++ if c ∈ sgP ps q then [tgtP ps q] else [] := by
  unfold nxtK
  rw [List.filter_append, List.map_append]
  congr 1
  by_cases h : c ∈ sgP ps q
  · rw [if_pos h, List.filter_cons_of_pos (by exact decide_eq_true h)]
    rfl
  · rw [if_neg h, List.filter_cons_of_neg (by rw [decide_eq_true_iff]; exact h)]
    rfl
theorem nxtK_len (ps : List Plc) (l : List Nat) (c : Nat) : (nxtK ps l c).length ≤ l.length := by
  unfold nxtK
  rw [List.length_map]
  exact List.length_filter_le _ _
theorem nxtK_lt {ps : List Plc} (po : PlOk ps) {l : List Nat} {c : Nat} (hl : ∀ q ∈ l, q < ps.length) : ∀ n ∈ nxtK ps l c, n < ps.length := fun n hn => by
  obtain ⟨q, hq, rfl⟩ := List.mem_map.mp hn
  obtain ⟨h1, h2⟩ := List.mem_filter.mp hq
  have := po.next q (fun z => by rw [z] at h2; simp at h2)
  unfold tgtP
  split
  · exact hl q h1
  · exact this
def sp_read : Sp := fun vs H Q _ => ∃ (pl hl : Addr) (as : List Addr) (ps : List Plc) (ks : List Nat) (c : Nat), vs = [.ref pl, .ref hl, .str (sg c)] ∧ PlsAt H pl as ps ∧ PlOk ps ∧ ps.length < 64 ∧ H hl = some (.tup (vi ks)) ∧ ks.length ≤ 10000 ∧ (∀ q ∈ ks, q < ps.length) ∧
  ∀ H' p, Same H H' → H p = none → H' p = some (.tup (vi (cloK ps (nxtK ps ks c)))) → Q (.ref p) H'
theorem ok_read (T : TX K mg) : FnOk P w K mg base CX0 2 T.a_read T.fd_read ["places", "held", "letter"] sp_read := by
  have G_let_on : FnOk P w K mg base CX0 1 T.a_let_on T.fd_let_on ["places", "numbers"] sp_let_on := ok_let_on T
  refine T.F_read.ok sc_read (fun vs H Q E h => ?_) (fun cdv A outer s0 H vs Q E hr h => ?_)
  · obtain ⟨pl, hl, as, ps, ks, c, rfl, _⟩ := h
    rfl
  · obtain ⟨pl, hl, as, ps, ks, c, rfl, pa, po, h64, hh, hkl, hks, q⟩ := h
    refine ⟨_, (pss_cons (ps_set (i := 3) sc_read.nd rfl (Or.inl rfl) (pe_lst pa_nil))
      (pss_cons (ps_for PassesOwn.never rfl (pi_tupK K rfl (pv 1)) (pg_name (i := 4) sc_read.nd rfl (Or.inl rfl))
        (pss_cons (ps_asg (pe_ix (ix_listK K rfl) (pv 0) (pv 4) (fun _ _ => rfl)) (pg_tupK (n := 2) K rfl (by rfl) (pgs_cons (pg_name (i := 5) sc_read.nd rfl (Or.inl rfl)) (pgs_cons (pg_name (i := 6) sc_read.nd rfl (Or.inl rfl)) pgs_nil))))
          (pss_one (ps_if (pt_cmpR op_in_sign (pv 2) (pv 5) (by rfl))
            (pss_one (ps_expr (pe_bmK K rfl PySem.F.plainAttrs_list PySem.F.slot_list_append PySem.F.type_list_append mt_append (pv 3) (pa_cons (pe_ifExp (pt_val (pv 6)) (pv 4) (pe_op op_add (pv 4) pe_int)) pa_nil))))
            pss_nil))))
      (pss_one (ps_ret (pe_call G_let_on (hr.mono (by decide)) (by rfl) T.g_let_on T.F_let_on.kp T.b_let_on .nil pass0 (pa_cons (pv 0) (pa_cons (pv 3) pa_nil))))))), ?_⟩
    have al := pa.2.1
    refine ⟨by show 0 ≤ sizeLine; decide, fun l nl => ?_⟩
    have s1 := same_new (o := .lst []) nl
    have el : (upd H l (.lst [])) l = some (.lst (vi [])) := upd_same
    generalize upd H l (.lst []) = H1 at s1 el
    refine ⟨.ref hl, rfl, hl, rfl, ⟨_, .inl (.inl (s1 _ _ hh))⟩, ?_⟩
    refine for_it (walk_tup (K := K) (a := hl) (xs := vi ks)) (fun i σ H' => (Same H H' ∧ H' l = some (.lst (vi (nxtK ps (ks.take i) c)))) ∧ ∃ y4 y5 y6, σ = [some (.ref pl), some (.ref hl), some (.str (sg c)), some (.ref l), y4, y5, y6]) ⟨⟨s1, el⟩, none, none, none, rfl⟩ (fun i σ H' _ hW => .inl (.inl (hW.1.1 _ _ hh))) (fun i x σ H2 H2' hi hW hY => ?_) (fun σ H2 hW => ?_)
    · obtain ⟨⟨s2, e2⟩, y4, y5, y6, rfl⟩ := hW
      obtain ⟨rfl, hx⟩ := hY
      obtain ⟨n, hn, rfl⟩ := int_at hx
      have hnp := hks n (List.mem_of_getElem? hn)
      have haa := List.getElem?_eq_getElem (l := as) (i := n) (by omega)
      have et := s2 _ _ (pa.2.2 _ _ _ haa (plA_get hnp))
      refine ⟨.ref pl, rfl, .int (n : Int), rfl, pl, _, (n : Int), .ref as[n], rfl, rfl, .inl (.inl (s2 _ _ pa.1)), atI_nat (vr_gJ haa), as[n], _, rfl, .inl (.inl et), rfl, .str (tJ (sgP ps n)), _, rfl, .bl (stP ps n), [], rfl, rfl, ?_⟩
      rw [take_snoc hn, nxtK_snoc]
      refine ⟨.str (sg c), rfl, .str (tJ (sgP ps n)), rfl, c, tJ (sgP ps n), rfl, rfl, _, rfl, ite2 (fun y => ?_) (fun y => ?_)⟩
      · have y : c ∈ sgP ps n := of_decide_eq_true y
        rw [if_pos y]
        have few := nxtK_len ps (ks.take i) c
        rw [List.length_take] at few
        have put : (Same H (upd H2' l (.lst (vi (nxtK ps (ks.take i) c) ++ [V.int (tgtP ps n : Int)]))) ∧ (upd H2' l (.lst (vi (nxtK ps (ks.take i) c) ++ [V.int (tgtP ps n : Int)]))) l = some (.lst (vi (nxtK ps (ks.take i) c ++ [tgtP ps n])))) := ⟨fun b o eb => by
          rw [upd_ne (ne_of_none eb nl)]
          exact s2 _ _ eb, by rw [upd_same, vi_snoc]⟩
        refine ⟨.ref l, rfl, .inl ⟨rfl, _, .inl (.inl e2)⟩, .bl (stP ps n), rfl, _, rfl, ?_⟩
        unfold tgtP at put ⊢
        cases hs : stP ps n with
        | true =>
          rw [hs, if_pos rfl] at put
          refine iteT ⟨.int (n : Int), rfl, l, _, _, rfl, rfl, e2, by rw [List.length_map]; exact fit6 (by omega), ?_⟩
          exact ⟨put, _, _, _, rfl⟩
        | false =>
          rw [hs, if_neg (by decide)] at put
          have e1 : (n : Int) + 1 = ((n + 1 : Nat) : Int) := by omega
          refine iteF ⟨.int (n : Int), rfl, _, _, rfl, rfl, l, _, _, rfl, rfl, e2, by rw [List.length_map]; exact fit6 (by omega), ?_⟩
          rw [← e1] at put
          exact ⟨put, _, _, _, rfl⟩
      · have y : c ∉ sgP ps n := fun z => y (decide_eq_true z)
        rw [if_neg y, List.append_nil]
        exact ⟨⟨s2, e2⟩, _, _, _, rfl⟩
    · obtain ⟨⟨s2, e2⟩, y4, y5, y6, rfl⟩ := hW
      rw [List.length_map, List.take_of_length_le (Nat.le_refl _)] at e2
      have := nxtK_len ps ks c
      exact ⟨.ref pl, rfl, .ref l, rfl, pl, l, as, ps, _, rfl, pa.same s2, po, h64, e2, by omega, nxtK_lt po hks, fun H3 p s3 np ep => q H3 p (s2.trans s3) (s2.free np) ep⟩
end
end LH

namespace LH
open PySem PySem.Spec PyProof.Rows L2 NdefX LamX LU
/-! ### keys that are tuples of numbers -/
def kJ (ns : List Nat) : NestedKey := .tup (ns.map fun t => .num ((t : Nat) : Int))
theorem nvsJ {H : Hp} : ∀ l : List Nat, NVs H (l.map fun t => NestedKey.num ((t : Nat) : Int)) (vi l)
  | [] => .nil
  | _ :: r => .cons (.num _) (nvsJ r)
theorem nvJ {H : Hp} {p : Addr} {ns : List Nat} (h : H p = some (.tup (vi ns))) : NV H (kJ ns) (.ref p) := .tup h (nvsJ ns)
theorem nvsJ_inv {H : Hp} : ∀ {l : List Nat} {vs : List V}, NVs H (l.map fun t => NestedKey.num ((t : Nat) : Int)) vs → vs = vi l
  | [], _, h => by cases h; rfl
  | a :: r, _, h => by
    cases h with
    | cons h t =>
      cases h
      rw [nvsJ_inv t]
      rfl
theorem nvJ_inv {H : Hp} {ns : List Nat} {v : V} (h : NV H (kJ ns) v) : ∃ p, v = .ref p ∧ H p = some (.tup (vi ns)) := by
  cases h with
  | tup e r => exact ⟨_, rfl, by rw [e, nvsJ_inv r]⟩
theorem numsJ_inj : ∀ {a b : List Nat}, (a.map fun t => NestedKey.num ((t : Nat) : Int)) = b.map (fun t => NestedKey.num ((t : Nat) : Int)) → a = b
  | [], [], _ => rfl
  | [], _ :: _, h => nomatch h
  | _ :: _, [], h => nomatch h
  | x :: r, y :: s, h => by
    rw [List.map_cons, List.map_cons] at h
    injection h with h1 h2
    injection h1 with h3
    rw [numsJ_inj h2, show x = y by omega]
theorem kJ_inj {a b : List Nat} (h : kJ a = kJ b) : a = b := numsJ_inj (NestedKey.tup.inj h)
theorem kJ_depth (ns : List Nat) : (kJ ns).depth ≤ 8 := by
  have : ∀ l : List Nat, NestedKey.depthAll (l.map fun t => NestedKey.num ((t : Nat) : Int)) = 0 := by
    intro l
    induction l with
    | nil => rfl
    | cons a r ih =>
      rw [List.map_cons]
      show max 0 (NestedKey.depthAll (r.map fun t => NestedKey.num ((t : Nat) : Int))) = 0
      rw [ih]
      rfl
  show NestedKey.depthAll _ + 1 ≤ 8
  rw [this]
  decide
theorem nvs_ofJ {H : Hp} : ∀ {ks : List NestedKey} {us : List V}, us.length = ks.length → (∀ (j : Nat) (k : NestedKey) (v : V), ks[j]? = some k → us[j]? = some v → NV H k v) → NVs H ks us
  | [], [], _, _ => .nil
  | [], _ :: _, h, _ => nomatch h
  | _ :: _, [], h, _ => nomatch h
  | k :: ks, u :: us, h, q => .cons (q 0 k u rfl rfl) (nvs_ofJ (Nat.succ.inj h) fun j a b x y => q (j + 1) a b x y)
end LH

namespace LH
open PySem PySem.Spec PyProof.Rows L2 NdefX LamX LU
/-! ### machine_of -/
theorem plI_len (i : Itm) : (plI i).length ≤ 2 := by
  unfold plI
  split <;> split <;> simp
theorem plA_len (brs : List (List Itm)) : (plA brs).length ≤ 2 * manyI brs + brs.length := by
  unfold plA manyI
  induction brs with
  | nil => exact Nat.le_refl _
  | cons b r ih =>
    rw [List.flatMap_cons, List.length_append, plB_len, List.map_cons, List.sum_cons, List.length_cons]
    have : (b.flatMap plI).length ≤ 2 * b.length := by
      clear ih
      induction b with
      | nil => exact Nat.le_refl _
      | cons i b ih2 =>
        have := plI_len i
        rw [List.flatMap_cons, List.length_append, List.length_cons]
        omega
    omega
abbrev st_followM : Stmt := (defBody s_machine_of).getD 1 (.Pass ⟨0, 0, 0, 0⟩)
abbrev st_is_endM : Stmt := (defBody s_machine_of).getD 2 (.Pass ⟨0, 0, 0, 0⟩)
abbrev q_followM : Str := (("machine_of" : Str) ++ ".<locals>.") ++ "follow"
abbrev q_is_endM : Str := (("machine_of" : Str) ++ ".<locals>.") ++ "is_end"
abbrev nf_followM (cl : List (Str × Addr)) (c : Addr) : NF := NF.of st_followM "follow" q_followM cl c
abbrev nf_is_endM (cl : List (Str × Addr)) (c : Addr) : NF := NF.of st_is_endM "is_end" q_is_endM cl c
abbrev N_followM : List Str := ["held", "letters", "places", "letter"]
theorem nd_followM : N_followM.Nodup := by decide +kernel
abbrev N_is_endM : List Str := ["held", "places", "at"]
theorem nd_is_endM : N_is_endM.Nodup := by decide +kernel
section
variable {P : Program} {w : World} {K : PySem.W.Frag} {mg : Str → Option Value} {base : Heap}
def sp_followM : List (Option V) → Sp := fun ws vs H Q _ => ∃ (z : Str) (pl hl : Addr) (as : List Addr) (ps : List Plc) (ks : List Nat), ws = [some (.str z), some (.ref pl)] ∧ vs = [.ref hl] ∧ z.length ≤ 5 ∧ PlsAt H pl as ps ∧ PlOk ps ∧ ps.length < 64 ∧ H hl = some (.tup (vi ks)) ∧ ks.length ≤ 10000 ∧ (∀ q ∈ ks, q < ps.length) ∧
  ∀ H' b (us : List Addr), Same H H' → H b = none → H' b = some (.lst (vr us)) → us.length = z.length → (∀ (j c : Nat) (u : Addr), z.cps.toList[j]? = some c → us[j]? = some u → H' u = some (.tup (vi (cloK ps (nxtK ps ks c))))) → Q (.ref b) H'
theorem ok_followM (T : TX K mg) {f c : Addr} {cl : List (Str × Addr)} : NOk P w K mg base CX0 3 f (nf_followM cl c) ["held"] ["letters", "places"] sp_followM := by
  have G_read := ok_read (P := P) (w := w) (base := base) T
  refine nok_ofC (N := N_followM) (nscC_by (by kernel_rfl)) (fun doc pm ctv us hl => match us, hl with | [_], _ => rfl) (fun ws vs H Q E h => ?_) (fun A outer s H vs ws Q E hr hf hc hlen h => ?_)
  · obtain ⟨z, pl, hl, as, ps, ks, rfl, rfl, _⟩ := h
    rfl
  · obtain ⟨z, pl, hl, as, ps, ks, rfl, rfl, hz, pa, po, h64, hh, hkl, hks, q⟩ := h
    refine ⟨_, PSs.nox (pss_one (ps_ret (pe_lc (own := [("letter", 3)]) (g := gName 3) (tt := tYes) (by rfl) nd_followM (pi_str (pv 1)) (blkOk_by (own := [("letter", 3)]) (N := N_followM) (by kernel_rfl)) (fun _ _ _ _ _ => (pg_name (i := 3) nd_followM rfl (Or.inl rfl))) (fun _ _ _ _ _ => pts_nil) (fun _ _ _ _ _ => (pe_call G_read (hr.mono (by decide)) (by rfl) T.g_read T.F_read.kp T.b_read .nil pass0 (pa_cons (pv 2) (pa_cons (pv 0) (pa_cons (pv 3) pa_nil)))))))), ?_⟩
    refine ⟨.str z, rfl, z, rfl, fun D nD => ?_⟩
    refine lc_it walk_str (fun k H' => Same H H' ∧ ∃ us : List Addr, H' D = some (.lst (vr us)) ∧ us.length = k ∧ ∀ (j c : Nat) (u : Addr), z.cps.toList[j]? = some c → us[j]? = some u → H' u = some (.tup (vi (cloK ps (nxtK ps ks c))))) ⟨same_new nD, [], upd_same, rfl, fun j c v _ x => by simp at x⟩ (fun _ _ _ _ => trivial) (fun k y H1 H1' hk1 hW hY => ?_) (fun H1 hW => ?_)
    · obtain ⟨s1, us, d1, lu, cu⟩ := hW
      obtain ⟨rfl, c, hc, rfl⟩ := hY
      have hc' : z.cps.toList[k]? = some c := by
        rw [Array.getElem?_toList]
        exact hc
      have hkz : k < z.length := hk1
      refine ⟨rfl, lcyes ?_⟩
      refine ⟨.ref pl, rfl, .ref hl, rfl, .str (sg c), rfl, pl, hl, as, ps, ks, c, rfl, pa.same s1, po, h64, s1 _ _ hh, hkl, hks, fun H2 u s2 nu eu => ?_⟩
      have d2 := s2 _ _ d1
      refine ⟨vr us, d2, by rw [List.length_map]; exact fit6 (by omega), fun b o eb => ?_, us ++ [u], by rw [upd_same, vr_snoc], by rw [List.length_append, lu]; rfl, fun j c' v e1 e2 => ?_⟩
      · rw [upd_ne (ne_of_none eb nD)]
        exact s2 _ _ (s1 _ _ eb)
      · by_cases hj : j < us.length
        · rw [List.getElem?_append_left hj] at e2
          have := s2 _ _ (cu j c' v e1 e2)
          rw [upd_ne (fun z => by rw [z, d2] at this; cases this)]
          exact this
        · have hj2 := (List.getElem?_eq_some_iff.mp e2).1
          rw [List.length_append] at hj2
          have hj2 : j < us.length + 1 := hj2
          obtain rfl : j = us.length := by omega
          rw [List.getElem?_append_right (Nat.le_refl _), Nat.sub_self] at e2
          obtain rfl : u = v := Option.some.inj e2
          rw [lu, hc'] at e1
          obtain rfl : c = c' := Option.some.inj e1
          rw [upd_ne (fun z => by rw [z, d2] at eu; cases eu)]
          exact eu
    · obtain ⟨s1, us, d1, lu, cu⟩ := hW
      exact q _ D us s1 nD d1 lu cu
def endK (ps : List Plc) (ks : List Nat) : Bool := decide (∃ q ∈ ks, sgP ps q = [])
theorem any_endK (ps : List Plc) (ks : List Nat) : (ks.map fun q => decide (sgP ps q = [])).any id = endK ps ks := by
  unfold endK
  rw [Bool.eq_iff_iff, List.any_eq_true, decide_eq_true_iff]
  constructor
  · rintro ⟨b, hb, h⟩
    obtain ⟨q, hq, rfl⟩ := List.mem_map.mp hb
    exact ⟨q, hq, of_decide_eq_true h⟩
  · rintro ⟨q, hq, h⟩
    exact ⟨_, List.mem_map.mpr ⟨q, hq, rfl⟩, decide_eq_true h⟩
def sp_is_endM : List (Option V) → Sp := fun ws vs H Q _ => ∃ (pl hl : Addr) (as : List Addr) (ps : List Plc) (ks : List Nat), ws = [some (.ref pl)] ∧ vs = [.ref hl] ∧ PlsAt H pl as ps ∧ H hl = some (.tup (vi ks)) ∧ ks.length ≤ 10000 ∧ (∀ q ∈ ks, q < ps.length) ∧ ∀ H', Same H H' → Q (.bl (endK ps ks)) H'
theorem ok_is_endM (T : TX K mg) {f c : Addr} {cl : List (Str × Addr)} : NOk P w K mg base CX0 1 f (nf_is_endM cl c) ["held"] ["places"] sp_is_endM := by
  refine nok_of (N := N_is_endM) (nscope_by (by kernel_rfl)) (fun doc pm ctv us hl => match us, hl with | [_], _ => rfl) (fun ws vs H Q E h => ?_) (fun A outer s H vs ws Q E hr hf hc hlen h => ?_)
  · obtain ⟨pl, hl, as, ps, ks, rfl, rfl, _⟩ := h
    rfl
  · obtain ⟨pl, hl, as, ps, ks, rfl, rfl, pa, hh, hkl, hks, q⟩ := h
    refine ⟨_, PSs.nox (pss_one (ps_ret (pe_callB (cr_anyK K rfl rfl) (by rfl) T.m_any (by decide +kernel) (pa_cons (pe_lc (own := [("at", 2)]) (g := gName 2) (tt := tYes) (by rfl) nd_is_endM (pi_tupK K rfl (pv 0)) (blkOk_by (own := [("at", 2)]) (N := N_is_endM) (by kernel_rfl)) (fun _ _ _ _ _ => (pg_name (i := 2) nd_is_endM rfl (Or.inl rfl))) (fun _ _ _ _ _ => pts_nil) (fun _ _ _ _ _ => (pe_cmpR op_eq (pe_ix (ix_tupK K rfl) (pe_ix (ix_listK K rfl) (pv 1) (pv 2) (fun _ _ => rfl)) pe_int (fun _ _ => rfl)) pe_str (nomark _)))) pa_nil)))), ?_⟩
    have al := pa.2.1
    refine ⟨.ref hl, rfl, hl, rfl, ⟨_, .inl (.inl hh)⟩, fun D nD => ?_⟩
    refine lc_it (walk_tup (K := K) (a := hl) (xs := vi ks)) (fun i H' => Same H H' ∧ H' D = some (.lst (((ks.take i).map fun q => decide (sgP ps q = [])).map V.bl))) ⟨same_new nD, upd_same⟩ (fun i H' _ hW => .inl (.inl (hW.1 _ _ hh))) (fun i x H1 H1' hi hW hY => ?_) (fun H1 hW => ?_)
    · obtain ⟨s1, e1⟩ := hW
      obtain ⟨rfl, hx⟩ := hY
      obtain ⟨n, hn, rfl⟩ := int_at hx
      rw [List.length_map] at hi
      have hnp := hks n (List.mem_of_getElem? hn)
      have haa := List.getElem?_eq_getElem (l := as) (i := n) (by omega)
      have et := s1 _ _ (pa.2.2 _ _ _ haa (plA_get hnp))
      refine ⟨rfl, lcyes ⟨.ref pl, rfl, .int (n : Int), rfl, pl, _, (n : Int), .ref as[n], rfl, rfl, .inl (.inl (s1 _ _ pa.1)), atI_nat (vr_gJ haa), as[n], _, 0, .str (tJ (sgP ps n)), rfl, rfl, .inl (.inl et), rfl, rfl, _, e1, ?_, fun b o eb => ?_, ?_⟩⟩
      · rw [List.length_map, List.length_map, List.length_take]
        exact fit6 (by omega)
      · rw [upd_ne (ne_of_none eb nD)]
        exact s1 _ _ eb
      · rw [upd_same, take_snoc hn, List.map_append, List.map_append, s_none, tJ_eq]
        rfl
    · obtain ⟨s1, e1⟩ := hW
      rw [List.length_map, List.take_of_length_le (Nat.le_refl _)] at e1
      refine ⟨D, _, rfl, .inl (.inl e1), ?_⟩
      rw [any_endK]
      exact q _ s1
end
end LH

namespace LH
open PySem PySem.Spec PyProof.Rows L2 NdefX LamX LU
theorem free_followM : ∀ y ∈ (C8.fnScope st_followM).names, y.2 = .free → (defScope s_machine_of).names.lookup y.1 = some .cell ∨ (defScope s_machine_of).names.lookup y.1 = some .free := by decide +kernel
theorem free_is_endM : ∀ y ∈ (C8.fnScope st_is_endM).names, y.2 = .free → (defScope s_machine_of).names.lookup y.1 = some .cell ∨ (defScope s_machine_of).names.lookup y.1 = some .free := by decide +kernel
def nm_machine_of : Nat → Nat → Str := fun l _ => if l = lineOf st_followM then q_followM else q_is_endM
abbrev xM (P : Program) (w : World) (K : PySem.W.Frag) (mg : Str → Option Value) (base : Heap) (f c : Addr) (A : Around) (outer : List Env) (s : Shared) (H : Hp) (E : XK) : Cx := (cxOf (L2.CX P w) P w K mg base N_machine_of "machine_of" (defScope s_machine_of) f (.ref c) A outer s H E)
section
variable {P : Program} {w : World} {K : PySem.W.Frag} {mg : Str → Option Value} {base : Heap}
theorem cap_fM {f c : Addr} {A : Around} {outer : List Env} {s : Shared} {H : Hp} {E : XK} (ok : (xM P w K mg base f c A outer s H E).Ok) : Caps (xM P w K mg base f c A outer s H E) (cloFrom (xM P w K mg base f c A outer s H E).env.cells (C8.fnScope st_followM).names []) ["letters", "places"] [0, 2] := Caps.made ok free_followM (by decide +kernel) rfl
theorem cap_eM {f c : Addr} {A : Around} {outer : List Env} {s : Shared} {H : Hp} {E : XK} (ok : (xM P w K mg base f c A outer s H E).Ok) : Caps (xM P w K mg base f c A outer s H E) (cloFrom (xM P w K mg base f c A outer s H E).env.cells (C8.fnScope st_is_endM).names []) ["places"] [2] := Caps.made ok free_is_endM (by decide +kernel) rfl
theorem cap_aM {f c : Addr} {A : Around} {outer : List Env} {s : Shared} {H : Hp} {E : XK} : Caps (xM P w K mg base f c A outer s H E) (xM P w K mg base f c A outer s H E).env.cells ["letters", "places"] [0, 2] := ⟨fun _ _ e => e, by
  intro y hy
  simp only [List.mem_cons, List.mem_nil_iff, or_false] at hy
  rcases hy with rfl | rfl
  · exact .inl rfl
  · exact .inl rfl, fun _ _ _ e => e, rfl⟩
/-- the words of a pattern's branches -/
def MtA (brs : List (List Itm)) (cs : List Nat) : Prop := ∃ b ∈ brs, Mt b cs
def sp_machineZ (tabs : List NTab) (A : Addr) : Sp := fun vs H Q E => ∃ (z : Str) (v : V), vs = [.str z, v] ∧ IsLet z ∧ TabsN tabs H ∧ ((NStr H v ∧ ∀ H', Same H H' → E (.ref A) none H') ∨ ∃ pt : Str, v = .str pt ∧ pt.length ≤ 1000 ∧
  (∀ brs H' p (M : Mach), IsPat z.cps.toList brs pt → ExtN H H' → TabsN tabs H' → MachAt H' p M → M.Ok → M.z = z → M.rows.length ≤ 257 → Canon z.length M.rows M.ends → (∀ cs, (∀ c ∈ cs, c ∈ z.cps.toList) → (M.has cs = true ↔ MtA brs cs)) → Q (.ref p) H') ∧
  (∀ H', Same H H' → (¬ ∃ brs, IsPat z.cps.toList brs pt) → E (.ref A) none H'))
theorem FunC.okX {P : Program} {w : World} {K : PySem.W.Frag} {mg : Str → Option Value} {base : Heap} {x qual : Str} {st : Stmt} {f c : Addr} {fd : FuncData} {N ps : List Str} {k : Nat} {sp : Sp} (F : FunC K x qual st f fd c) (S : FnScope N ps (defScope st)) (len : ∀ vs H Q E, sp vs H Q E → vs.length = ps.length)
    (body : ∀ (A : Around) (outer : List Env) (s : Shared) (H : Hp) (vs : List V) (Q : VK) (E : XK), Room k (A.deeper (envOfC qual (defScope st) s.heap.objs.size f (.ref c))) → sp vs H Q E → ∃ t, PSs (cxOf (L2.CX P w) P w K mg base N qual (defScope st) f (.ref c) A outer s H E) (defBody st) t ∧ t { nx := fun _ H' => Q .non H', rt := Q } (start N vs) H) : FnOk P w K mg base (L2.CX P w) (k + 1) f fd ps sp := by
  obtain ⟨oc, od, kV, doc, pm, an, ct, osl, rfl, lk, hcd⟩ := F.ex
  exact fn_of lk hcd S len fun A outer s H vs Q E hr hsp => body A outer s H vs Q E hr hsp
theorem stI_lt {brs : List (List Itm)} {q : Nat} (h : q ∈ stI brs) : q < (plA brs).length := by
  obtain ⟨j, b, hj, rfl⟩ := stI_at.mp h
  exact plA_in hj
theorem cloK_lt {ps : List Plc} {T : List Nat} : ∀ q ∈ cloK ps T, q < ps.length := fun q h => (mem_cloK.mp h).1
theorem ok_machineZ (T : TX K mg) {c PT : Addr} {tabs : List NTab} (F : FunC K "machine_of" "machine_of" s_machine_of T.a_machine_of T.fd_machine_of c) (TB : TabB base mg c PT) (hin : (PT, nm_machine_of) ∈ tabs) (huq : ∀ p ∈ tabs, p.1 = PT → p.2 = nm_machine_of) : FnOk P w K mg base (L2.CX P w) 7 T.a_machine_of T.fd_machine_of ["letters", "pattern"] (sp_machineZ tabs T.A_NoPattern) := by
  have G_built : FnOk P w K mg base CX0 6 T.a_built T.fd_built ["letters", "start", "follow", "is_end"] (sp_builtU P w K mg base) := ok_builtU T
  have G_branches_of : FnOk P w K mg base (L2.CX P w) 5 T.a_branches_of T.fd_branches_of ["letters", "pattern"] (sp_branchesZ T.A_NoPattern) := ok_branchesZ T
  have G_places_of : FnOk P w K mg base CX0 1 T.a_places_of T.fd_places_of ["branches"] sp_places_of := ok_places_of T
  have G_let_on : FnOk P w K mg base CX0 1 T.a_let_on T.fd_let_on ["places", "numbers"] sp_let_on := ok_let_on T
  refine F.okX sc_machine_of (fun vs H Q E h => ?_) (fun A outer s H vs Q E hr h => ?_)
  · obtain ⟨z, v, rfl, _⟩ := h
    rfl
  · obtain ⟨z, v, rfl, hz, tb0, hv⟩ := h
    refine ⟨_, (pss_cons (ps_asg (pe_call G_places_of (hr.mono (by decide)) (by rfl) T.g_places_of T.F_places_of.kp T.b_places_of .nil pass0 (pa_cons (pe_callS G_branches_of (hr.mono (by decide)) (by rfl) T.g_branches_of T.F_branches_of.kp T.b_branches_of (fun σ => passAt (takes_of rfl rfl rfl rfl) σ) (pa_cons (pv 0) (pa_cons (pv 1) pa_nil))) pa_nil)) (pg_tupK (n := 2) K rfl (by rfl) (pgs_cons (pg_name (i := 2) sc_machine_of.nd rfl (Or.inr rfl)) (pgs_cons (pg_name (i := 3) sc_machine_of.nd rfl (Or.inl rfl)) pgs_nil))))
        (pss_cons (ps_ndefMS (st := st_followM) (i := 4) rfl TB rfl hin (by kernel_rfl) huq free_followM rfl rfl rfl sc_machine_of.nd rfl (Or.inl rfl) (Or.inr rfl))
        (pss_cons (ps_ndefMS (st := st_is_endM) (i := 5) rfl TB rfl hin (by kernel_rfl) huq free_is_endM rfl rfl rfl sc_machine_of.nd rfl (Or.inl rfl) (Or.inr rfl))
        (pss_one (ps_ret (pe_callTr G_built (hr.mono (by decide)) (by rfl) T.g_built T.F_built.kp T.b_built (fun _ => cap_aM) (fun _ => rfl) (pa_cons (pv 0) (pa_cons (pe_call G_let_on (hr.mono (by decide)) (by rfl) T.g_let_on T.F_let_on.kp T.b_let_on .nil pass0 (pa_cons (pv 2) (pa_cons (pv 3) pa_nil))) (pa_cons (pv 4) (pa_cons (pv 5) pa_nil)))))))))), ?_⟩
    have zl : Zl z.cps.toList := ⟨by rw [Array.length_toList]; exact hz.five, hz.small⟩
    have zn : z.cps.toList ≠ [] := fun e => by
      have h1 := hz.one
      have h2 : z.cps.toList.length = z.length := Array.length_toList
      rw [e] at h2
      have h3 : ([] : List Nat).length = 0 := rfl
      omega
    refine ⟨.str z, rfl, v, rfl, z, v, rfl, zl, zn, ?_⟩
    rcases hv with ⟨hn, qE⟩ | ⟨pt, rfl, hp, q, qE⟩
    · exact .inl ⟨hn, qE⟩
    refine .inr ⟨pt, rfl, hp, fun brs Ha b bas ip sa nb ba => ?_, qE⟩
    have h8b := isPat_many ip
    obtain ⟨hne, h8, hpat⟩ := id ip
    have ok := hpat.ok
    have po := plOk_A ok
    have pln := plA_len brs
    have h64 : (plA brs).length < 64 := by omega
    refine ⟨b, bas, brs, rfl, ba, ok, by omega, by omega, fun H1 p0 pl sl as sb ep pa est => ?_⟩
    have sm1 := sa.trans sb
    refine ⟨p0, _, rfl, .inl (.inl ep), rfl, .ref pl, _, rfl, .ref sl, [], rfl, rfl, ?_⟩
    refine ⟨tb0.ext sm1, fun f1 c1 H2 ex2 ng2 tb2 nf1 ef1 ec1 => ?_⟩
    refine ⟨tb2, fun f2 c2 H3 ex3 ng3 tb3 nf2 ef2 ec2 => ?_⟩
    have s13 : ∀ b o, H1 b = some o → (∀ ps, o ≠ .tbl ps) → H3 b = some o := fun b o eb n => ex3 b o (ex2 b o eb n) n
    have pa3 : PlsAt H3 pl as (plA brs) := ⟨s13 _ _ pa.1 (by intro ps z; cases z), pa.2.1, fun i a q x y => s13 _ _ (pa.2.2 i a q x y) (by intro ps z; cases z)⟩
    have est3 := s13 _ _ est (by intro ps z; cases z)
    refine ⟨.str z, rfl, ?_⟩
    have stl : (stI brs).length ≤ 10000 := by
      unfold stI
      rw [List.length_map, List.length_range]
      omega
    refine ⟨.ref pl, rfl, .ref sl, rfl, pl, sl, as, plA brs, stI brs, rfl, pa3, po, h64, est3, stl, fun n hn => stI_lt hn, fun H3' v0 s30 nv0 ev0 => ?_⟩
    refine ⟨.ref f1, rfl, .ref f2, rfl, rfl, fun okx H4 hout hnone CT => ?_⟩
    have f31 : H3' f1 = some (FnO f1 (nf_followM (cloFrom (xM P w K mg base T.a_machine_of c A outer s H E).env.cells (C8.fnScope st_followM).names []) c1)) := s30 _ _ (ex3 f1 _ ef1 fun ps => fnO_ne ps)
    have c31 : H3' c1 = some (CodeO c1 q_followM) := s30 _ _ (ex3 c1 _ ec1 fun ps => codeO_ne ps)
    have f32 : H3' f2 = some (FnO f2 (nf_is_endM (cloFrom (xM P w K mg base T.a_machine_of c A outer s H E).env.cells (C8.fnScope st_is_endM).names []) c2)) := s30 _ _ ef2
    have c32 : H3' c2 = some (CodeO c2 q_is_endM) := s30 _ _ ec2
    have nin : ∀ b o, H3' b = some o → ¬ inC (xM P w K mg base T.a_machine_of c A outer s H E).env.cells b := fun b o eb z => by
      have := hnone b z
      rw [eb] at this
      cases this
    have up : ∀ b o, H3' b = some o → H4 b = some o := fun b o eb => by
      rw [hout b (nin b o eb)]
      exact eb
    have pa4 : PlsAt H4 pl as (plA brs) := (pa3.same s30).same fun b o eb => up b o eb
    have ev4 := up _ _ ev0
    have cellE : ∀ b, inC (xM P w K mg base T.a_machine_of c A outer s H E).env.cells b → ∃ o, H4 b = some (CellO b o) := fun b z => by
      obtain ⟨y, hy⟩ := z
      obtain ⟨o, v, z1, _⟩ := CT.all y b hy
      exact ⟨o, z1⟩
    have capF := cap_fM okx
    have capE := cap_eM okx
    have CF : ∀ H' : Hp, Same H4 H' → CellsT H' (cloFrom (xM P w K mg base T.a_machine_of c A outer s H E).env.cells (C8.fnScope st_followM).names []) ["letters", "places"] [some (.str z), some (.ref pl)] := fun H' sm => (CT.same fun b o eb => sm _ _ eb).sub capF rfl fun i y hy => ⟨i, hy, rfl⟩
    have CE : ∀ H' : Hp, Same H4 H' → CellsT H' (cloFrom (xM P w K mg base T.a_machine_of c A outer s H E).env.cells (C8.fnScope st_is_endM).names []) ["places"] [some (.ref pl)] := fun H' sm => (CT.same fun b o eb => sm _ _ eb).sub capE rfl fun i y hy => by
      match i, hy with
      | 0, hy => exact ⟨1, hy, rfl⟩
      | i + 1, hy => simp at hy
    have ca1 := Callable.of ((ok_followM (P := P) (w := w) (K := K) (mg := mg) (base := base) (f := f1) (c := c1) (cl := cloFrom (xM P w K mg base T.a_machine_of c A outer s H E).env.cells (C8.fnScope st_followM).names []) T).mono (show 3 ≤ 4 by decide))
    have ca2 := Callable.of ((ok_is_endM (P := P) (w := w) (K := K) (mg := mg) (base := base) (f := f2) (c := c2) (cl := cloFrom (xM P w K mg base T.a_machine_of c A outer s H E).env.cells (C8.fnScope st_is_endM).names []) T).mono (show 1 ≤ 4 by decide))
    have m0 : cloK (plA brs) (stI brs) ∈ allK brs := List.mem_cons_self
    obtain ⟨i0, e0⟩ := uK_idx m0
    have big : (usK brs).length ≤ 257 := usK_len h8
    have zl' : z.cps.toList.length = z.length := Array.length_toList
    have rok : ∀ s', s' < (usK brs).length → (rK z.cps.toList brs s').length = z.length ∧ ∀ t ∈ rK z.cps.toList brs s', t < (usK brs).length := fun s' _ => ⟨by unfold rK; rw [List.length_map, zl'], fun t ht => by
      obtain ⟨d, _, rfl⟩ := List.mem_map.mp ht
      exact (uK_idx (allK_next ok _ _)).1⟩
    have uin : ∀ s', s' < (usK brs).length → (uK brs s').length ≤ 10000 ∧ ∀ q ∈ uK brs s', q < (plA brs).length := fun s' hs' => by
      have hc := allK_clo ok (uK_mem hs')
      have hm := uK_mem hs'
      rcases List.mem_cons.mp hm with e | e
      · rw [e]
        exact ⟨Nat.le_trans (cloK_len _ _) (by omega), cloK_lt⟩
      · obtain ⟨T', _, e⟩ := List.mem_map.mp e
        rw [← e]
        exact ⟨Nat.le_trans (cloK_len _ _) (by omega), cloK_lt⟩
    refine ⟨z, .ref v0, f1, f2, _, _, _, _, fun s' => kJ (uK brs s'), (usK brs).idxOf (cloK (plA brs) (stI brs)), (usK brs).length, z.length, rK z.cps.toList brs, finK brs, rfl, ?_, up _ _ f31, ca1, up _ _ f32, ca2, i0, by omega, hz.one, hz.five, fun s' _ => kJ_depth _, fun s' t hs ht e => uK_inj hs ht (kJ_inj e), rok, fun s' v H' Q' hs' sm hv hQ => ?_, fun s' v H' Q' hs' sm hv hQ => ?_, fun H5 p M ks tbl hl5 sm5 mm ez bo => ⟨fun b y => ?_, ?_⟩⟩
    · show NV H4 (kJ (uK brs ((usK brs).idxOf (cloK (plA brs) (stI brs))))) (.ref v0)
      rw [e0]
      exact nvJ ev4
    · -- follow
      have nC : ∀ b o, H' b = some o → (∀ x, o ≠ CellO b x) → hide (inC (cloFrom (xM P w K mg base T.a_machine_of c A outer s H E).env.cells (C8.fnScope st_followM).names [])) H' b = some o := fun b o eb n => by
        rw [hide_out (fun z => by
          obtain ⟨y, hy⟩ := z
          obtain ⟨o', v, z1, _⟩ := (CF H' sm).all y b hy
          rw [eb] at z1
          exact n _ (Option.some.inj z1))]
        exact eb
      obtain ⟨hp, rfl, ehp⟩ := nvJ_inv hv
      obtain ⟨u1, u2⟩ := uin s' hs'
      have pa' := pa4.same sm
      refine ⟨[some (.str z), some (.ref pl)], sm _ _ (up _ _ f31), sm _ _ (up _ _ c31), CF H' sm, z, pl, hp, as, plA brs, uK brs s', rfl, rfl, hz.five, ⟨nC _ _ pa'.1 (by intro x z; cases z), pa'.2.1, fun i a q x y => nC _ _ (pa'.2.2 i a q x y) (by intro x z; cases z)⟩, po, h64, nC _ _ ehp (by intro x z; cases z), u1, u2, fun H6 b us sm6 nb eb lu cu h6n => ?_⟩
      have out6 : ∀ (x : Addr) (o : HO), H6 x = some o → ¬ inC (cloFrom (xM P w K mg base T.a_machine_of c A outer s H E).env.cells (C8.fnScope st_followM).names []) x := fun x o ex z => by
        rw [h6n x z] at ex
        cases ex
      refine hQ _ b (vr us) (fun x o ex => ?_) ?_ ?_ (nvs_ofJ (by rw [List.length_map, lu, List.length_map]; exact (rok s' hs').1.symm) fun j k v' hk hv' => ?_)
      · by_cases z : inC (cloFrom (xM P w K mg base T.a_machine_of c A outer s H E).env.cells (C8.fnScope st_followM).names []) x
        · exact (back_in z).trans ex
        · exact (back_out z).trans (sm6 _ _ ((hide_out z).trans ex))
      · exact (hide_out (out6 b _ eb)).symm.trans nb
      · exact (back_out (out6 b _ eb)).trans eb
      · have hj := (List.getElem?_eq_some_iff.mp hv').1
        rw [List.length_map] at hj
        have hj2 : j < z.cps.toList.length := by omega
        have hc := List.getElem?_eq_getElem hj2
        have hu := List.getElem?_eq_getElem hj
        have q1 := cu j _ us[j] hc hu
        rw [List.getElem?_map, hu] at hv'
        obtain rfl : V.ref us[j] = v' := Option.some.inj hv'
        unfold rK at hk
        rw [List.getElem?_map, List.getElem?_map, hc] at hk
        have hk : kJ (uK brs ((usK brs).idxOf (cloK (plA brs) (nxtK (plA brs) (uK brs s') z.cps.toList[j])))) = k := Option.some.inj hk
        rw [(uK_idx (allK_next ok _ _)).2] at hk
        rw [← hk]
        exact nvJ ((back_out (out6 us[j] _ q1)).trans q1)
    · -- is_end
      have nC : ∀ b o, H' b = some o → (∀ x, o ≠ CellO b x) → hide (inC (cloFrom (xM P w K mg base T.a_machine_of c A outer s H E).env.cells (C8.fnScope st_is_endM).names [])) H' b = some o := fun b o eb n => by
        rw [hide_out (fun z => by
          obtain ⟨y, hy⟩ := z
          obtain ⟨o', v, z1, _⟩ := (CE H' sm).all y b hy
          rw [eb] at z1
          exact n _ (Option.some.inj z1))]
        exact eb
      obtain ⟨hp, rfl, ehp⟩ := nvJ_inv hv
      obtain ⟨u1, u2⟩ := uin s' hs'
      have pa' := pa4.same sm
      refine ⟨[some (.ref pl)], sm _ _ (up _ _ f32), sm _ _ (up _ _ c32), CE H' sm, pl, hp, as, plA brs, uK brs s', rfl, rfl, ⟨nC _ _ pa'.1 (by intro x z; cases z), pa'.2.1, fun i a q x y => nC _ _ (pa'.2.2 i a q x y) (by intro x z; cases z)⟩, nC _ _ ehp (by intro x z; cases z), u1, u2, fun H6 sm6 h6n => ?_⟩
      refine hQ _ fun x o ex => ?_
      by_cases z : inC (cloFrom (xM P w K mg base T.a_machine_of c A outer s H E).env.cells (C8.fnScope st_is_endM).names []) x
      · exact (back_in z).trans ex
      · exact (back_out z).trans (sm6 _ _ ((hide_out z).trans ex))
    · obtain ⟨o, z1⟩ := cellE b y
      rw [sm5 _ _ z1, z1]
    · have keep : ∀ b o, H3' b = some o → hide (inC (xM P w K mg base T.a_machine_of c A outer s H E).env.cells) H5 b = some o := fun b o eb => by
        rw [hide_out (nin b o eb)]
        exact sm5 _ _ (up b o eb)
      have tk : TabOk ks.length z.length tbl := BuiltOk.tab bo.wi bo.len bo.full hz.one hz.five (by omega)
      refine q brs _ p M ip (fun b o eb n => keep b o (s30 _ _ (s13 b o (sm1 _ _ eb) n))) ((tb3.ext s30).ext fun b o eb => keep b o eb) (mm.mono fun b xs eb => ?_) (bo.mach tk (by rw [ez]; exact hz) (by rw [ez])) ez (Nat.le_trans bo.few big) (bo.canon tk) fun cs hcs => ?_
      · rw [hide_out (fun z => by
          obtain ⟨o, z1⟩ := cellE b z
          rw [sm5 _ _ z1] at eb
          cases eb)]
        exact eb
      · have hw := cols_lt hcs
        have := bo.words tk (cs.map fun c => z.cps.toList.idxOf c) hw
        rw [has_runs, ez, decide_eq_true_iff, this]
        have e := rK_run (cs := z.cps.toList) ok (cs.map fun c => z.cps.toList.idxOf c) _ i0 (fun i hi => by rw [zl']; exact hw i hi)
        have back : (cs.map fun c => z.cps.toList.idxOf c).map (fun i => z.cps.toList.getD i 0) = cs := by
          rw [List.map_map]
          conv => rhs; rw [← List.map_id cs]
          refine List.map_congr_left fun d hd => ?_
          have hl := List.idxOf_lt_length_iff.mpr (hcs d hd)
          show z.cps.toList.getD (z.cps.toList.idxOf d) 0 = d
          rw [List.getD_eq_getElem?_getD, List.getElem?_eq_getElem hl, List.getElem_idxOf]
          rfl
        rw [back, e0] at e
        unfold finK
        rw [decide_eq_true_iff, show runR (rK z.cps.toList brs) = fun s w => w.foldl (fun s c => (rK z.cps.toList brs s).getD c 0) s from rfl]
        show (∃ q ∈ uK brs (List.foldl (fun s c => (rK z.cps.toList brs s).getD c 0) _ _), _) ↔ _
        rw [e]
        exact words_A ok cs
end
end LH

namespace LH
open PySem PySem.Spec PyProof.Rows L2
/-! ### text.replace(a, b) of two written texts, behind a written text that is out -/
section
variable {X : Cx} {pos : PySem.Pos}
theorem pet_of {e : Expr} {te : TE} (h : PE X e te) : PET X e te := fun pins s σ H Q _ I q => h.run pins s σ H Q I q
theorem psst_one {st : Stmt} {t : TS} (h : PST X st t) : PSsT X [st] t := by
  intro pins s σ H D h0 I q
  refine wpAny_execs_cons (thn (h pins s σ H D h0 I q) fun f s1 w => ?_)
  cases f with
  | next => exact wpAny_execs_nil w
  | ret v => exact w
  | brk => exact w
  | cont => exact w
theorem psst_cut {st : Stmt} {rest : List Stmt} {t u : TS} (h1 : PST X st t) (h2 : PSsT X rest u) : PSsT X (st :: rest) (C8.tCut t u) := by
  intro pins s σ H D h0 I q
  obtain ⟨Mid, q1, q2⟩ := q
  refine wpAny_execs_cons (wpAny_mono (PySem.wpAny_toks (h1 pins s σ H { D with nx := Mid } h0 I q1)) (fun f s1 w => ?_) fun _ _ x => x.2)
  obtain ⟨more, w⟩ := w
  cases f with
  | next =>
    obtain ⟨σ', H', I', w⟩ := w
    exact h2 pins s1 σ' H' D (Nat.le_trans h0 more) I' (q2 _ _ w)
  | ret v => exact w
  | brk => exact w
  | cont => exact w
theorem pst_if {c : Expr} {a b : List Stmt} {tc : TT} {t u : TS} (hc : PT X c tc) (ha : PSsT X a t) (hb : PSsT X b u) : PST X (.If c a b pos) (tIfS tc t u) := by
  intro pins s σ H D h0 I q
  refine wpAny_If (wpAny_mono (PySem.wpAny_toks (hc.run pins s σ H _ I q)) (fun d s1 w => ?_) fun _ _ x => x.2)
  obtain ⟨more, H1, I1, q1⟩ := w
  cases d with
  | true => exact ha pins s1 σ H1 D (Nat.le_trans h0 more) I1 q1
  | false => exact hb pins s1 σ H1 D (Nat.le_trans h0 more) I1 q1
theorem pst_asg {tg e : Expr} {te : TE} {g : TG} (he : PET X e te) (hg : PG X tg g) (hs : swapsWithSole [tg] e pos.line X.env = pure false := by rfl) (hw : swappedStores [tg] e X.env = pure none := by rfl)
    (h1 : (assignEach [tg] X.env).map (·.2) = [assign tg X.env] := by rfl) : PST X (.Assign [tg] e pos) (tAsg te g) := by
  intro pins s σ H D h0 I q
  refine wpAny_Assign_stores (thn (he pins s σ H _ h0 I q) fun v s1 ⟨x, H1, I1, r1, q1⟩ => ?_) hs hw
  rw [h1]
  exact thn (hg.run pins s1 σ H1 x v _ I1 r1 q1) fun _ s2 w => w
theorem pet_ix {a b : Expr} {ta tb : TE} {r : R2} (hr : IxR X r) (ha : PET X a ta) (hb : PE X b tb) (hs : PlainIx b) : PET X (.Subscript a b pos) (tOp r ta tb) := by
  intro pins s σ H Q h0 I q
  refine Subscript_ (thn (ha pins s σ H _ h0 I q) fun v s1 ⟨x, H1, I1, r1, q1⟩ => ?_)
  refine thn (hb.run pins s1 σ H1 _ I1 q1) fun u s2 ⟨y, H2, I2, r2, q2⟩ => ?_
  exact hr a b pins s2 σ H2 x y v u Q I2 r1 r2 q2 (hs _ _)
def tRepC (y z : Str) (to : TE) : TE := fun σ H Q => to σ H fun x H1 => ∃ a, x = .str a ∧ a.length + (a.length + 1) * z.length ≤ 16777216 ∧ Q (.str (Txt.replace a y z)) H1
theorem pet_replC {o : Expr} {to : TE} {y z : Str} {j0 j1 : Nat} {c0 c1 apos : PySem.Pos} (ho : PE X o to) (hyz : (y == z) = false) (hbase : attributeBase o "replace" X.env (eval o X.env) = eval o X.env := by rfl) (hline : (apos.endLine == pos.line) = true := by rfl) :
    PET X (.Call (.Attribute o "replace" apos) [.Constant (.str y) j0 c0, .Constant (.str z) j1 c1] [] pos) (tRepC y z to) := by
  intro pins s σ H Q h0 I h
  refine PySem.Call_method2 hbase rfl hline ?_
  refine wpAny_mono (PySem.wpAny_toks (ho.run pins s σ H _ I h)) (fun v s1 w => ?_) fun _ _ x => x.2
  obtain ⟨more, x, H1, I1, r1, a, rfl, hb, q⟩ := w
  obtain ⟨tx, rfl⟩ := r1
  have pos1 : 1 ≤ s1.toks := Nat.le_trans h0 more
  refine ⟨"str", _, F.plainAttrs_str, F.slot_str_replace, F.type_str_replace, typeIs_str _ _ _, (fun _ e => nomatch e), Calls.callWith_builtin rfl (Calls.evalArgs_plain (Calls.spliced_cons ?_))⟩
  refine Calls.Constant_str (Calls.spliced_cons (Calls.Constant_str (Calls.spliced_nil ?_)))
  exact PySem.SC.replace (show s1.toks ≠ 0 by omega) (show s1.toks + 1 ≠ 0 by omega) (show s1.toks ≠ s1.toks + 1 by omega) hyz hb fun t' k => ⟨.str (Txt.replace a y z), H1, I1.tok k, ⟨t', rfl⟩, q⟩
end
end LH

namespace LH
open PySem PySem.Spec PyProof.Rows L2 NdefX LamX LU
theorem mapJ_inj : ∀ {a b : List (List Nat)}, a.map tJ = b.map tJ → a = b
  | [], [], _ => rfl
  | [], _ :: _, h => nomatch h
  | _ :: _, [], h => nomatch h
  | _ :: _, _ :: _, h => by
    obtain ⟨h1, h2⟩ := List.cons.inj h
    rw [tJ_inj h1, mapJ_inj h2]
/-- each part of a pattern's text is a branch -/
theorem isPat_part {z : List Nat} (zl : Zl z) {brs : List (List Itm)} {pt : Str} {ts : List (List Nat)} (sp : Txt.split pt (tJ [124]) = ts.map tJ) (h : IsPat z brs pt) : brs.length = ts.length ∧ ∀ (j : Nat) (br : List Itm) (t : List Nat), brs[j]? = some br → ts[j]? = some t → br ≠ [] ∧ BrT z br t := by
  obtain ⟨ne, _, pa⟩ := h
  obtain ⟨ts', sp', hl', ht'⟩ := patT_split zl pa ne
  rw [sp] at sp'
  have := mapJ_inj sp'
  subst this
  exact ⟨hl', ht'⟩
theorem isPat_uniq {z : List Nat} (zl : Zl z) {brs brs' : List (List Itm)} {pt : Str} (h : IsPat z brs pt) (h' : IsPat z brs' pt) : brs = brs' := by
  obtain ⟨ts, sp, _⟩ := split_tJ pt
  obtain ⟨l1, p1⟩ := isPat_part zl sp h
  obtain ⟨l2, p2⟩ := isPat_part zl sp h'
  apply List.ext_getElem?
  intro j
  by_cases hj : j < ts.length
  · have g1 := List.getElem?_eq_getElem (l := brs) (i := j) (by omega)
    have g2 := List.getElem?_eq_getElem (l := brs') (i := j) (by omega)
    have t1 := List.getElem?_eq_getElem hj
    rw [g1, g2, (p1 j _ _ g1 t1).2.uniq zl (p2 j _ _ g2 t1).2]
  · rw [List.getElem?_eq_none (by omega), List.getElem?_eq_none (by omega)]
end LH

namespace LH
open PySem PySem.Spec PyProof.Rows L2 NdefX LamX LU
theorem iteTz {B : Bool} {A C : Prop} (e : B = true) (h : A) : if B = true then A else C := by
  rw [if_pos e]
  exact h
theorem iteFz {B : Bool} {A C : Prop} (e : B = false) (h : C) : if B = true then A else C := by
  rw [e]
  exact h
theorem inV_strZ (x : Str) : ∀ xs : List Str, inV (.str x) (xs.map V.str) = decide (x ∈ xs)
  | [] => rfl
  | y :: r => by
    show (eqV (V.str y) (V.str x) || inV (.str x) (r.map V.str)) = _
    rw [inV_strZ x r]
    show ((y == x) || _) = _
    by_cases h : y = x
    · subst h
      simp
    · have h2 : ¬ x = y := fun e => h e.symm
      rw [beq_eq_false_iff_ne.mpr h]
      simp [h2]
theorem flat_strsZ : ∀ xs : List Str, (xs.map V.str).all flatV = true
  | [] => rfl
  | _ :: r => flat_strsZ r
theorem str_eqZ {a b : Str} : decide (V.str a = V.str b) = decide (a = b) := by
  by_cases h : a = b
  · rw [h]; simp
  · rw [decide_eq_false h, decide_eq_false fun e => h (V.str.inj e)]
/-- a text of one sign -/
theorem one_sign {x : Str} (h : x.length = 1) : ∃ c, x = sg c := by
  obtain ⟨a⟩ := x
  have h : a.size = 1 := h
  refine ⟨a[0], ?_⟩
  show (⟨a⟩ : Str) = ⟨#[a[0]]⟩
  congr 1
  apply Array.ext
  · exact h.trans rfl
  · intro i h1 h2
    have : i = 0 := by omega
    subst this
    rfl
/-- rules as they are read: their parts any texts -/
inductive RR where
  | two (x y u v : Nat)
  | call (x y im : Str)
  | one (x y : Str) (g : Option (Str × Str × Str))
def RRAt (H : Hp) (p : Addr) : RR → Prop
  | .two x y u v => H p = some (.tup [.str "two", .str (sg x), .str (sg y), .str (sg u), .str (sg v)])
  | .call x y im => H p = some (.tup [.str "call", .str x, .str y, .str im])
  | .one x y none => H p = some (.tup [.str "one", .str x, .str y, .non])
  | .one x y (some (h, w, s)) => ∃ g, H p = some (.tup [.str "one", .str x, .str y, .ref g]) ∧ H g = some (.tup [.str h, .str w, .str s])
theorem RRAt.mono {H H' : Hp} {p : Addr} {R : RR} (t : Tups H H') (h : RRAt H p R) : RRAt H' p R := by
  cases R with
  | two => exact t _ _ h
  | call => exact t _ _ h
  | one x y g =>
    cases g with
    | none => exact t _ _ h
    | some q =>
      obtain ⟨a, b, c⟩ := q
      obtain ⟨g, h1, h2⟩ := h
      exact ⟨g, t _ _ h1, t _ _ h2⟩
def RR.short : RR → Prop
  | .two _ _ _ _ => True
  | .call x y im => x.length ≤ 1000 ∧ y.length ≤ 1000 ∧ im.length ≤ 1000
  | .one x y none => x.length ≤ 1000 ∧ y.length ≤ 1000
  | .one x y (some (h, w, s)) => x.length ≤ 1000 ∧ y.length ≤ 1000 ∧ h.length ≤ 1000 ∧ w.length ≤ 1000 ∧ s.length ≤ 1000
def toRR : Rul → RR
  | .two x y u v => .two x y u v
  | .call x y im => .call (sg x) (sg y) (tJ im)
  | .one x y none => .one (sg x) (sg y) none
  | .one x y (some G) => .one (sg x) (sg y) (some (G.how, G.wh, tJ G.sm))
theorem toRR_at {H : Hp} {p : Addr} {R : Rul} : RRAt H p (toRR R) ↔ RulAt H p R := by
  cases R with
  | two => exact Iff.rfl
  | call => exact Iff.rfl
  | one x y g =>
    cases g with
    | none => exact ⟨fun h => ⟨.non, h, rfl⟩, fun ⟨v, h, e⟩ => by
        obtain rfl : v = .non := e
        exact h⟩
    | some G => exact ⟨fun ⟨g, h1, h2⟩ => ⟨.ref g, h1, g, rfl, h2⟩, fun ⟨v, h, g, e, h2⟩ => by
        subst e
        exact ⟨g, h, h2⟩⟩
def GoodRR (z sh : Str) (r : RR) : Prop := ∃ R : Rul, r = toRR R ∧ R.Ok z sh
theorem mem_five {z : Str} (hz : IsLet z) {s : List Nat} (h1 : s.Pairwise (· < ·)) (h2 : ∀ c ∈ s, c ∈ z.cps.toList) : s.length ≤ 5 := by
  have nd : s.Nodup := h1.imp fun x => Nat.ne_of_lt x
  have := len_le_of_sub nd h2
  rw [Array.length_toList] at this
  exact Nat.le_trans this hz.five
section
variable {P : Program} {w : World} {K : PySem.W.Frag} {mg : Str → Option Value} {base : Heap}
/-! ### is_letters .. is_rule, of any texts -/
def sp_is_lettersZ : Sp := fun vs H Q _ => ∃ z : Str, vs = [.str z] ∧ z.length ≤ 1000 ∧ ∀ H' (b : Bool), Same H H' → (b = true ↔ IsLet z) → Q (.bl b) H'
theorem ok_is_lettersZ (T : TX K mg) : FnOk P w K mg base CX0 2 T.a_is_letters T.fd_is_letters ["thing"] sp_is_lettersZ := by
  have G_rises : FnOk P w K mg base CX0 1 T.a_rises T.fd_rises ["row"] sp_risesB := ok_risesB T
  refine T.F_is_letters.ok sc_is_letters (fun vs H Q E h => ?_) (fun cdv A outer s H vs Q E hr h => ?_)
  · obtain ⟨z, rfl, _⟩ := h
    rfl
  · obtain ⟨z, rfl, hl, q⟩ := h
    refine ⟨_, (pss_cons (ps_if (PW.pt (pw_or (pt_not (pt_val (pe_callB (call_isiK K rfl) (by rfl) T.m_isinstance (by decide +kernel) (pa_cons (pv 0) (pa_cons (pe_bltn (v := .ty "str") (by rfl) T.m_str (by decide +kernel) rfl) pa_nil))))) (pw_or (pt_cmpR op_lt (pe_callB call_len_str (by rfl) T.m_len (by decide +kernel) (pa_cons (pv 0) pa_nil)) pe_int (nomark _)) (pw_or1 (pt_cmpR op_gt (pe_callB call_len_str (by rfl) T.m_len (by decide +kernel) (pa_cons (pv 0) pa_nil)) (pe_glob (v := .int 5) (by rfl) T.c_MOST_LETTERS ⟨_, rfl⟩) (nomark _))))))
        (pss_one (ps_ret pe_bl))
        pss_nil)
      (pss_one (ps_ret (pe_and (pe_callB (cr_allK K rfl rfl) (by rfl) T.m_all (by decide +kernel) (pa_cons (pe_lc (own := [("sign", 1)]) (g := gName 1) (tt := tYes) (by rfl) sc_is_letters.nd (pi_str (pv 0)) (blkOk_by (own := [("sign", 1)]) (N := N_is_letters) (by kernel_rfl)) (fun _ _ _ _ _ => (pg_name (i := 1) sc_is_letters.nd rfl (by first | exact Or.inl rfl | exact Or.inr rfl))) (fun _ _ _ _ _ => pts_nil) (fun _ _ _ _ _ => (pe_chain op_le_str op_le_str pe_str (pv 1) pe_str))) pa_nil)) (pe_one (pe_call G_rises (hr.mono (by decide)) (by rfl) T.g_rises T.F_rises.kp T.b_rises .nil pass0 (pa_cons (pv 0) pa_nil))))))), ?_⟩
    have zs : z.length ≤ sizeLine := Nat.le_trans hl (by decide)
    have zz : z.cps.toList.length = z.length := Array.length_toList
    refine ⟨.str z, rfl, .str z, .ty "str", .type "str", .type "str", true, rfl, .ty _, .base (.str z), kit_ty (by decide +kernel), true, rfl, iteF ?_⟩
    refine ⟨.str z, rfl, z, rfl, zs, _, _, rfl, rfl, _, rfl, ite2 (fun y => ?_) (fun y => ?_)⟩
    · have y := of_decide_eq_true y
      exact iteT (q _ false (Same.refl _) ⟨fun h => (nomatch h), fun h => by have := h.one; omega⟩)
    have y1 : ¬ (z.length : Int) < 1 := fun h => y (decide_eq_true h)
    refine ⟨.str z, rfl, z, rfl, zs, _, _, rfl, rfl, _, rfl, ite2 (fun y => ?_) (fun y => ?_)⟩
    · have y := of_decide_eq_true y
      exact q _ false (Same.refl _) ⟨fun h => (nomatch h), fun h => by have := h.five; omega⟩
    have y2 : ¬ (5 : Int) < (z.length : Int) := fun h => y (decide_eq_true h)
    refine ⟨.str z, rfl, z, rfl, fun D nD => ?_⟩
    refine lc_it walk_str (fun i H' => Same H H' ∧ H' D = some (.lst (((z.cps.toList.take i).map fun c => decide (97 ≤ c ∧ c ≤ 122)).map V.bl))) ⟨same_new nD, upd_same⟩ (fun _ _ _ _ => trivial) (fun i v H1o H1 hi hW hY => ?_) (fun H1 hW => ?_)
    · obtain ⟨s1, e1⟩ := hW
      obtain ⟨rfl, c, hc, rfl⟩ := hY
      have hc' : z.cps.toList[i]? = some c := by rw [Array.getElem?_toList]; exact hc
      have hi' := (List.getElem?_eq_some_iff.mp hc').1
      have sz : (((z.cps.toList.take i).map fun c => decide (97 ≤ c ∧ c ≤ 122)).map V.bl).length < sizeLine := by
        rw [List.length_map, List.length_map, List.length_take]
        exact fit6 (by omega)
      have t1 : (!decide ((sg c).cps.toList < ("a" : Str).cps.toList)) = decide (97 ≤ c) := by
        show (!decide ([c] < [97])) = _
        by_cases h : 97 ≤ c
        · rw [decide_eq_true h, decide_eq_false fun h2 => by have := one_ltZ.mp h2; omega]
          rfl
        · rw [decide_eq_false h, decide_eq_true (one_ltZ.mpr (by omega))]
          rfl
      have t2 : (!decide (("z" : Str).cps.toList < (sg c).cps.toList)) = decide (c ≤ 122) := by
        show (!decide ([122] < [c])) = _
        by_cases h : c ≤ 122
        · rw [decide_eq_true h, decide_eq_false fun h2 => by have := one_ltZ.mp h2; omega]
          rfl
        · rw [decide_eq_false h, decide_eq_true (one_ltZ.mpr (by omega))]
          rfl
      have fin : ∀ bb : Bool, bb = decide (97 ≤ c ∧ c ≤ 122) → some (HO.lst ((((z.cps.toList.take i).map fun c => decide (97 ≤ c ∧ c ≤ 122)).map V.bl) ++ [V.bl bb])) = some (HO.lst (((z.cps.toList.take (i + 1)).map fun c => decide (97 ≤ c ∧ c ≤ 122)).map V.bl)) := fun bb hb => by
        rw [take_snoc hc', List.map_append, List.map_append, hb]
        rfl
      refine ⟨rfl, lcyes ?_⟩
      by_cases h97 : 97 ≤ c
      · refine ⟨.str (sg c), rfl, _, _, rfl, rfl, true, by rw [t1, decide_eq_true h97], iteT ?_⟩
        refine ⟨_, _, rfl, rfl, _, e1, sz, fun b o e => ?_, ?_⟩
        · rw [upd_ne (ne_of_none e nD)]
          exact s1 b o e
        · rw [upd_same, t2]
          exact fin _ (by by_cases h : c ≤ 122 <;> simp [h97, h])
      · refine ⟨.str (sg c), rfl, _, _, rfl, rfl, false, by rw [t1, decide_eq_false h97], iteF ?_⟩
        refine ⟨_, e1, sz, fun b o e => ?_, ?_⟩
        · rw [upd_ne (ne_of_none e nD)]
          exact s1 b o e
        · rw [upd_same]
          exact fin _ (by rw [decide_eq_false fun h => h97 h.1])
    · obtain ⟨s1, e1⟩ := hW
      have e3 : z.cps.toList.take z.cps.size = z.cps.toList := List.take_of_length_le (by rw [zz]; exact Nat.le_refl _)
      rw [e3] at e1
      refine ⟨D, _, rfl, .inl (.inl e1), _, rfl, ?_⟩
      by_cases h : ∀ c ∈ z.cps.toList, 97 ≤ c ∧ c ≤ 122
      · refine iteTz ?_ ⟨.str z, rfl, z, rfl, hl, fun H2 s2 => q _ _ (s1.trans s2) ?_⟩
        · rw [List.all_eq_true]
          intro x hx
          obtain ⟨c, hc, rfl⟩ := List.mem_map.mp hx
          exact decide_eq_true (h c hc)
        · rw [decide_eq_true_iff]
          exact ⟨fun hp => ⟨by omega, by omega, hp, h⟩, fun hp => hp.rise⟩
      · refine iteFz ?_ (q _ _ s1 ⟨fun h => (nomatch h), fun hp => absurd hp.small h⟩)
        rw [← Bool.not_eq_true, List.all_eq_true]
        intro h2
        exact h fun c hc => of_decide_eq_true (h2 _ (List.mem_map.mpr ⟨c, hc, rfl⟩))
def sp_is_one_ofZ (K : PySem.W.Frag) : Sp := fun vs H Q _ => ∃ (x : Str) (a : Addr) (xs : List Str), vs = [.str x, .ref a] ∧ ConstT K a xs ∧ Q (.bl (decide (x ∈ xs))) H
theorem ok_is_one_ofZ (T : TX K mg) : FnOk P w K mg base CX0 1 T.a_is_one_of T.fd_is_one_of ["thing", "texts"] (sp_is_one_ofZ K) := by
  refine T.F_is_one_of.ok sc_is_one_of (fun vs H Q E h => ?_) (fun cdv A outer s H vs Q E hr h => ?_)
  · obtain ⟨x, a, xs, rfl, _⟩ := h
    rfl
  · obtain ⟨x, a, xs, rfl, hc, q⟩ := h
    refine ⟨_, (pss_one (ps_ret (pe_and (pe_callB (call_isiK K rfl) (by rfl) T.m_isinstance (by decide +kernel) (pa_cons (pv 0) (pa_cons (pe_bltn (v := .ty "str") (by rfl) T.m_str (by decide +kernel) rfl) pa_nil))) (pe_one (pe_cmpR (op_in_seqK K rfl) (pv 0) (pv 1) (by rfl)))))), ?_⟩
    refine ⟨.str x, rfl, .str x, .ty "str", .type "str", .type "str", true, rfl, .ty _, .base (.str x), kit_ty (by decide +kernel), true, rfl, iteT ?_⟩
    refine ⟨.str x, rfl, .ref a, rfl, a, _, rfl, .inr (hc.sq H), rfl, flat_strsZ xs, ?_⟩
    show Q (.bl (inV _ _)) _
    rw [inV_strZ]
    exact q
def sp_is_letterZ : Sp := fun vs H Q _ => ∃ (z x : Str), vs = [.str z, .str x] ∧ x.length ≤ 1000 ∧ ∀ b : Bool, (b = true ↔ ∃ c ∈ z.cps.toList, x = sg c) → Q (.bl b) H
theorem ok_is_letterZ (T : TX K mg) : FnOk P w K mg base CX0 1 T.a_is_letter T.fd_is_letter ["letters", "thing"] sp_is_letterZ := by
  refine T.F_is_letter.ok sc_is_letter (fun vs H Q E h => ?_) (fun cdv A outer s H vs Q E hr h => ?_)
  · obtain ⟨z, x, rfl, _⟩ := h
    rfl
  · obtain ⟨z, x, rfl, hl, q⟩ := h
    refine ⟨_, (pss_one (ps_ret (pe_and (pe_callB (call_isiK K rfl) (by rfl) T.m_isinstance (by decide +kernel) (pa_cons (pv 1) (pa_cons (pe_bltn (v := .ty "str") (by rfl) T.m_str (by decide +kernel) rfl) pa_nil))) (pe_and (pe_cmpR op_eq (pe_callB call_len_str (by rfl) T.m_len (by decide +kernel) (pa_cons (pv 1) pa_nil)) pe_int (nomark _)) (pe_one (pe_cmpR op_in_sign (pv 1) (pv 0) (by rfl))))))), ?_⟩
    refine ⟨.str x, rfl, .str x, .ty "str", .type "str", .type "str", true, rfl, .ty _, .base (.str _), kit_ty (by decide +kernel), true, rfl, iteT ?_⟩
    refine ⟨.str x, rfl, x, rfl, Nat.le_trans hl (by decide), rfl, _, rfl, ?_⟩
    by_cases h1 : x.length = 1
    · refine iteTz (decide_eq_true (congrArg V.int (by omega))) ?_
      obtain ⟨c, rfl⟩ := one_sign h1
      refine ⟨.str (sg c), rfl, .str z, rfl, c, z, rfl, rfl, ?_⟩
      refine q _ ?_
      rw [decide_eq_true_iff]
      exact ⟨fun h => ⟨c, h, rfl⟩, fun ⟨d, h, e⟩ => by
        have := congrArg (fun s : Str => s.cps.getD 0 0) e
        have : c = d := this
        rw [this]
        exact h⟩
    · refine iteFz (decide_eq_false fun h => h1 (by have := V.int.inj h; omega)) (q _ ⟨fun h => (nomatch h), fun ⟨d, _, e⟩ => absurd (by rw [e]; rfl) h1⟩)
def sp_is_text_ofZ : Sp := fun vs H Q _ => ∃ (z x : Str), vs = [.str z, .str x] ∧ x.length ≤ 1000 ∧ ∀ H', Same H H' → Q (.bl (decide (∀ c ∈ x.cps.toList, c ∈ z.cps.toList))) H'
theorem ok_is_text_ofZ (T : TX K mg) : FnOk P w K mg base CX0 1 T.a_is_text_of T.fd_is_text_of ["letters", "thing"] sp_is_text_ofZ := by
  refine T.F_is_text_of.ok sc_is_text_of (fun vs H Q E h => ?_) (fun cdv A outer s H vs Q E hr h => ?_)
  · obtain ⟨z, x, rfl, _⟩ := h
    rfl
  · obtain ⟨z, x, rfl, hl, q⟩ := h
    refine ⟨_, (pss_one (ps_ret (pe_and (pe_callB (call_isiK K rfl) (by rfl) T.m_isinstance (by decide +kernel) (pa_cons (pv 1) (pa_cons (pe_bltn (v := .ty "str") (by rfl) T.m_str (by decide +kernel) rfl) pa_nil))) (pe_one (pe_callB (cr_allK K rfl rfl) (by rfl) T.m_all (by decide +kernel) (pa_cons (pe_lc (own := [("sign", 2)]) (g := gName 2) (tt := tYes) (by rfl) sc_is_text_of.nd (pi_str (pv 1)) (blkOk_by (own := [("sign", 2)]) (N := N_is_text_of) (by kernel_rfl)) (fun _ _ _ _ _ => (pg_name (i := 2) sc_is_text_of.nd rfl (by first | exact Or.inl rfl | exact Or.inr rfl))) (fun _ _ _ _ _ => pts_nil) (fun _ _ _ _ _ => (pe_cmpR op_in_sign (pv 2) (pv 0) (by rfl)))) pa_nil)))))), ?_⟩
    have zz : x.cps.toList.length = x.length := Array.length_toList
    refine ⟨.str x, rfl, .str x, .ty "str", .type "str", .type "str", true, rfl, .ty _, .base (.str _), kit_ty (by decide +kernel), true, rfl, iteT ?_⟩
    refine ⟨.str x, rfl, x, rfl, fun D nD => ?_⟩
    refine lc_it walk_str (fun i H' => Same H H' ∧ H' D = some (.lst (((x.cps.toList.take i).map fun c => decide (c ∈ z.cps.toList)).map V.bl))) ⟨same_new nD, upd_same⟩ (fun _ _ _ _ => trivial) (fun i v H1o H1 hi hW hY => ?_) (fun H1 hW => ?_)
    · obtain ⟨s1, e1⟩ := hW
      obtain ⟨rfl, c, hc, rfl⟩ := hY
      have hc' : x.cps.toList[i]? = some c := by rw [Array.getElem?_toList]; exact hc
      have hi' := (List.getElem?_eq_some_iff.mp hc').1
      refine ⟨rfl, lcyes ⟨.str (sg c), rfl, .str z, rfl, c, z, rfl, rfl, _, e1, ?_, fun b o e => ?_, ?_⟩⟩
      · rw [List.length_map, List.length_map, List.length_take]
        exact fit6 (by omega)
      · rw [upd_ne (ne_of_none e nD)]
        exact s1 b o e
      · rw [upd_same, take_snoc hc', List.map_append, List.map_append]
        rfl
    · obtain ⟨s1, e1⟩ := hW
      rw [List.take_of_length_le (by rw [zz]; exact Nat.le_refl _)] at e1
      refine ⟨D, _, rfl, .inl (.inl e1), ?_⟩
      have : ((x.cps.toList.map fun c => decide (c ∈ z.cps.toList)).all id) = decide (∀ c ∈ x.cps.toList, c ∈ z.cps.toList) := by
        rw [Bool.eq_iff_iff, List.all_eq_true, decide_eq_true_iff]
        exact ⟨fun h c hc => of_decide_eq_true (h _ (List.mem_map.mpr ⟨c, hc, rfl⟩)), fun h b hb => by
          obtain ⟨c, hc, rfl⟩ := List.mem_map.mp hb
          exact decide_eq_true (h c hc)⟩
      rw [this]
      exact q _ s1
def sp_is_imageZ : Sp := fun vs H Q _ => ∃ (z x : Str), vs = [.str z, .str x] ∧ z.length ≤ 1000 ∧ x.length ≤ 1000 ∧ ∀ H' (b : Bool), Same H H' → (b = true ↔ (∀ c ∈ x.cps.toList, c ∈ z.cps.toList) ∧ x.length = z.length) → Q (.bl b) H'
theorem ok_is_imageZ (T : TX K mg) : FnOk P w K mg base CX0 2 T.a_is_image T.fd_is_image ["letters", "thing"] sp_is_imageZ := by
  have G_is_text_of : FnOk P w K mg base CX0 1 T.a_is_text_of T.fd_is_text_of ["letters", "thing"] sp_is_text_ofZ := ok_is_text_ofZ T
  refine T.F_is_image.ok sc_is_image (fun vs H Q E h => ?_) (fun cdv A outer s H vs Q E hr h => ?_)
  · obtain ⟨z, x, rfl, _⟩ := h
    rfl
  · obtain ⟨z, x, rfl, zl, xl, q⟩ := h
    refine ⟨_, (pss_one (ps_ret (pe_and (pe_call G_is_text_of (hr.mono (by decide)) (by rfl) T.g_is_text_of T.F_is_text_of.kp T.b_is_text_of .nil pass0 (pa_cons (pv 0) (pa_cons (pv 1) pa_nil))) (pe_one (pe_cmpR op_eq (pe_callB call_len_str (by rfl) T.m_len (by decide +kernel) (pa_cons (pv 1) pa_nil)) (pe_callB call_len_str (by rfl) T.m_len (by decide +kernel) (pa_cons (pv 0) pa_nil)) (nomark _)))))), ?_⟩
    refine ⟨.str z, rfl, .str x, rfl, z, x, rfl, xl, fun H1 s1 => ⟨_, rfl, ?_⟩⟩
    by_cases h : ∀ c ∈ x.cps.toList, c ∈ z.cps.toList
    · refine iteTz (decide_eq_true h) ⟨.str x, rfl, x, rfl, Nat.le_trans xl (by decide), .str z, rfl, z, rfl, Nat.le_trans zl (by decide), rfl, q _ _ s1 ?_⟩
      rw [decide_eq_true_iff]
      exact ⟨fun e => ⟨h, by have := V.int.inj e; omega⟩, fun e => congrArg V.int (by rw [e.2])⟩
    · exact iteFz (decide_eq_false h) (q _ _ s1 ⟨fun h => (nomatch h), fun h2 => absurd h2.1 h⟩)
/-! ### is_guard -/
def sp_is_guardZ : Sp := fun vs H Q _ => ∃ (z sh : Str) (g : Addr) (h w s : Str), vs = [.str z, .str sh, .ref g] ∧ H g = some (.tup [.str h, .str w, .str s]) ∧ (sh = "row" ∨ sh = "ring") ∧ IsLet z ∧ s.length ≤ 1000 ∧ ∀ H' (b : Bool), Same H H' → (b = true ↔ ∃ G : Grd, h = G.how ∧ w = G.wh ∧ s = tJ G.sm ∧ G.Ok z sh) → Q (.bl b) H'
theorem ok_is_guardZ (T : TX K mg) : FnOk P w K mg base CX0 2 T.a_is_guard T.fd_is_guard ["letters", "shape", "thing"] sp_is_guardZ := by
  have G_is_text_of : FnOk P w K mg base CX0 1 T.a_is_text_of T.fd_is_text_of ["letters", "thing"] sp_is_text_ofZ := ok_is_text_ofZ T
  have G_is_one_of : FnOk P w K mg base CX0 1 T.a_is_one_of T.fd_is_one_of ["thing", "texts"] (sp_is_one_ofZ K) := ok_is_one_ofZ T
  have G_rises : FnOk P w K mg base CX0 1 T.a_rises T.fd_rises ["row"] sp_risesB := ok_risesB T
  refine T.F_is_guard.ok sc_is_guard (fun vs H Q E h => ?_) (fun cdv A outer s H vs Q E hr h => ?_)
  · obtain ⟨z, sh, g, h, w, s, rfl, _⟩ := h
    rfl
  · obtain ⟨z, sh, g, ho, wh, sm, rfl, eg, hsh, hz, sl, q⟩ := h
    refine ⟨_, (pss_cons (ps_if (PW.pt (pw_or (pt_not (pt_val (pe_callB (call_isiK K rfl) (by rfl) T.m_isinstance (by decide +kernel) (pa_cons (pv 2) (pa_cons (pe_bltn (v := .ty "tuple") (by rfl) T.m_tuple (by decide +kernel) rfl) pa_nil))))) (pw_or1 (pt_cmpR op_ne (pe_callB (call_lenK K rfl) (by rfl) T.m_len (by decide +kernel) (pa_cons (pv 2) pa_nil)) pe_int (nomark _)))))
        (pss_one (ps_ret pe_bl))
        pss_nil)
      (pss_cons (ps_asg (pv 2) (pg_tupK (n := 3) K rfl (by rfl) (pgs_cons (pg_name (i := 3) sc_is_guard.nd rfl (Or.inl rfl)) (pgs_cons (pg_name (i := 4) sc_is_guard.nd rfl (Or.inl rfl)) (pgs_cons (pg_name (i := 5) sc_is_guard.nd rfl (Or.inl rfl)) pgs_nil)))))
      (pss_cons (ps_set (i := 6) sc_is_guard.nd rfl (Or.inl rfl) (pe_pure (pe_ifExp (pt_cmpR op_eq (pv 1) pe_str (nomark _)) (pe_glob (v := .ref T.a_ROW_PLACES) (by rfl) T.c_ROW_PLACES rfl) (pe_glob (v := .ref T.a_RING_PLACES) (by rfl) T.c_RING_PLACES rfl))))
      (pss_cons (ps_if (PW.pt (pw_or (pt_not (pt_val (pe_call G_is_one_of (hr.mono (by decide)) (by rfl) T.g_is_one_of T.F_is_one_of.kp T.b_is_one_of .nil pass0 (pa_cons (pv 3) (pa_cons (pe_glob (v := .ref T.a_HOWS) (by rfl) T.c_HOWS rfl) pa_nil))))) (pw_or1 (pt_not (pt_val (pe_call G_is_one_of (hr.mono (by decide)) (by rfl) T.g_is_one_of T.F_is_one_of.kp T.b_is_one_of .nil pass0 (pa_cons (pv 4) (pa_cons (pv 6) pa_nil))))))))
        (pss_one (ps_ret pe_bl))
        pss_nil)
      (pss_one (ps_ret (pe_and (pe_call G_is_text_of (hr.mono (by decide)) (by rfl) T.g_is_text_of T.F_is_text_of.kp T.b_is_text_of .nil pass0 (pa_cons (pv 0) (pa_cons (pv 5) pa_nil))) (pe_and (pe_cmpR op_ne (pv 5) pe_str (nomark _)) (pe_one (pe_call G_rises (hr.mono (by decide)) (by rfl) T.g_rises T.F_rises.kp T.b_rises .nil pass0 (pa_cons (pv 5) pa_nil))))))))))), ?_⟩
    refine ⟨.ref g, rfl, .ref g, .ty "tuple", .type "tuple", .type "tuple", true, rfl, .ty _, .base (.tup eg), kit_ty (by decide +kernel), true, rfl, iteF ?_⟩
    refine ⟨.ref g, rfl, g, _, rfl, .inr (.inl (.inl eg)), rfl, false, rfl, iteF ?_⟩
    refine ⟨.ref g, rfl, g, _, rfl, .inl (.inl eg), rfl, .str ho, _, rfl, .str wh, _, rfl, .str sm, [], rfl, rfl, ?_⟩
    obtain ⟨pl, a, hc, hat, hw⟩ : ∃ (pl : List Str) (a : Addr), ConstT K a pl ∧ ((decide (V.str sh = V.str (Str.ofString "row")) = true ∧ a = T.a_ROW_PLACES) ∨ (decide (V.str sh = V.str (Str.ofString "row")) = false ∧ a = T.a_RING_PLACES)) ∧ (wh ∈ pl ↔ (wh = "left" ∨ wh = "right" ∨ wh = "others") ∧ (sh = "ring" → wh = "others")) := by
      rcases hsh with rfl | rfl
      · refine ⟨_, _, T.k_ROW_PLACES, .inl ⟨by decide +kernel, rfl⟩, ?_⟩
        simp only [List.mem_cons, List.mem_nil_iff, or_false]
        exact ⟨fun h => ⟨h, fun e => absurd e (by decide +kernel)⟩, fun h => h.1⟩
      · refine ⟨_, _, T.k_RING_PLACES, .inr ⟨by decide +kernel, rfl⟩, ?_⟩
        simp only [List.mem_cons, List.mem_nil_iff, or_false]
        exact ⟨fun h => ⟨.inr (.inr h), fun _ => h⟩, fun h => h.2 trivial⟩
    refine ⟨.ref a, ⟨.str sh, rfl, rfl, _, rfl, ?_⟩, ?_⟩
    · rcases hat with ⟨h, rfl⟩ | ⟨h, rfl⟩
      · exact iteTz h ⟨rfl, rfl⟩
      · exact iteFz h ⟨rfl, rfl⟩
    refine ⟨.str ho, rfl, ho, T.a_HOWS, _, rfl, T.k_HOWS, _, rfl, ?_⟩
    have hmem : ho ∈ [Str.ofString "all", Str.ofString "some"] ↔ (ho = "all" ∨ ho = "some") := by
      simp only [List.mem_cons, List.mem_nil_iff, or_false] <;> exact Iff.rfl
    by_cases hho : ¬ (ho = "all" ∨ ho = "some")
    · refine iteTz (by rw [decide_eq_false fun h => hho (hmem.mp h)]; rfl) (iteT (q _ false (Same.refl _) ⟨fun h => (nomatch h), fun ⟨G, e, _, _, ok⟩ => absurd (e ▸ ok.how) hho⟩))
    have hho := Classical.not_not.mp hho
    refine iteFz (by rw [decide_eq_true (hmem.mpr hho)]; rfl) ?_
    refine ⟨.str wh, rfl, .ref a, rfl, wh, a, pl, rfl, hc, _, rfl, ?_⟩
    by_cases hwh : ¬ wh ∈ pl
    · refine iteTz (by rw [decide_eq_false hwh]; rfl) (q _ false (Same.refl _) ⟨fun h => (nomatch h), fun ⟨G, _, e, _, ok⟩ => absurd (hw.mpr ⟨e ▸ ok.wh, fun r => e ▸ ok.ring r⟩) hwh⟩)
    have hwh := Classical.not_not.mp hwh
    obtain ⟨w1, w2⟩ := hw.mp hwh
    refine iteFz (by rw [decide_eq_true hwh]; rfl) ?_
    refine ⟨.str z, rfl, .str sm, rfl, z, sm, rfl, sl, fun H1 s1 => ⟨_, rfl, ?_⟩⟩
    have esm : sm = tJ sm.cps.toList := (tJ_list sm).symm
    have toG : ∀ G : Grd, sm = tJ G.sm → G.sm = sm.cps.toList := fun G e => by rw [e]
    by_cases hin : ¬ ∀ c ∈ sm.cps.toList, c ∈ z.cps.toList
    · exact iteFz (decide_eq_false hin) (q _ false s1 ⟨fun h => (nomatch h), fun ⟨G, _, _, e, ok⟩ => absurd (by rw [← toG G e]; exact ok.sm) hin⟩)
    have hin := Classical.not_not.mp hin
    refine iteTz (decide_eq_true hin) ?_
    refine ⟨.str sm, rfl, rfl, _, rfl, ?_⟩
    by_cases hs0 : sm = Str.ofString ""
    · refine iteFz (by rw [hs0]; simp) (q _ false s1 ⟨fun h => (nomatch h), fun ⟨G, _, _, e, ok⟩ => ?_⟩)
      have h1 := ok.one.1
      rw [toG G e, hs0] at h1
      exact absurd h1 (by decide +kernel)
    · refine iteTz (by rw [str_eqZ, decide_eq_false hs0]; rfl) ⟨.str sm, rfl, sm, rfl, sl, fun H2 s2 => q _ _ (s1.trans s2) ?_⟩
      rw [decide_eq_true_iff]
      constructor
      · intro hp
        have h5 := mem_five hz hp hin
        refine ⟨⟨ho, wh, sm.cps.toList⟩, rfl, rfl, esm, hho, w1, w2, hin, ⟨?_, by show sm.cps.toList.length ≤ 100; omega⟩, hp⟩
        refine Nat.one_le_iff_ne_zero.mpr fun e => hs0 ?_
        have : sm.cps.toList = [] := List.eq_nil_of_length_eq_zero e
        rw [esm, this]
        decide +kernel
      · rintro ⟨G, _, _, e, ok⟩
        rw [← toG G e]
        exact ok.up
/-! ### is_rule -/
def sp_is_ruleZ : Sp := fun vs H Q _ => ∃ (z sh : Str) (p : Addr) (R : RR), vs = [.str z, .str sh, .ref p] ∧ RRAt H p R ∧ R.short ∧ IsLet z ∧ (sh = "row" ∨ sh = "ring") ∧ ∀ H' (b : Bool), Same H H' → (b = true ↔ GoodRR z sh R) → Q (.bl b) H'
theorem ok_is_ruleZ (T : TX K mg) : FnOk P w K mg base CX0 3 T.a_is_rule T.fd_is_rule ["letters", "shape", "thing"] sp_is_ruleZ := by
  have G_is_letter : FnOk P w K mg base CX0 1 T.a_is_letter T.fd_is_letter ["letters", "thing"] sp_is_letterZ := ok_is_letterZ T
  have G_is_guard : FnOk P w K mg base CX0 2 T.a_is_guard T.fd_is_guard ["letters", "shape", "thing"] sp_is_guardZ := ok_is_guardZ T
  have G_is_image : FnOk P w K mg base CX0 2 T.a_is_image T.fd_is_image ["letters", "thing"] sp_is_imageZ := ok_is_imageZ T
  refine T.F_is_rule.ok sc_is_rule (fun vs H Q E h => ?_) (fun cdv A outer s H vs Q E hr h => ?_)
  · obtain ⟨z, sh, p, R, rfl, _⟩ := h
    rfl
  · obtain ⟨z, sh, p, R, rfl, hp, hsR, hz, hsh, q⟩ := h
    refine ⟨_, (pss_cons (ps_if (PW.pt (pw_or (pt_not (pt_val (pe_callB (call_isiK K rfl) (by rfl) T.m_isinstance (by decide +kernel) (pa_cons (pv 2) (pa_cons (pe_bltn (v := .ty "tuple") (by rfl) T.m_tuple (by decide +kernel) rfl) pa_nil))))) (pw_or (pt_cmpR op_lt (pe_callB (call_lenK K rfl) (by rfl) T.m_len (by decide +kernel) (pa_cons (pv 2) pa_nil)) pe_int (nomark _)) (pw_or1 (pt_not (pt_val (pe_callB (call_isiK K rfl) (by rfl) T.m_isinstance (by decide +kernel) (pa_cons (pe_ix (ix_tupK K rfl) (pv 2) pe_int (fun _ _ => rfl)) (pa_cons (pe_bltn (v := .ty "str") (by rfl) T.m_str (by decide +kernel) rfl) pa_nil)))))))))
        (pss_one (ps_ret pe_bl))
        pss_nil)
      (pss_cons (ps_if (PW.pt (pw_or (pt_not (pt_val (pe_call G_is_letter (hr.mono (by decide)) (by rfl) T.g_is_letter T.F_is_letter.kp T.b_is_letter .nil pass0 (pa_cons (pv 0) (pa_cons (pe_ix (ix_tupK K rfl) (pv 2) pe_int (fun _ _ => rfl)) pa_nil))))) (pw_or1 (pt_not (pt_val (pe_call G_is_letter (hr.mono (by decide)) (by rfl) T.g_is_letter T.F_is_letter.kp T.b_is_letter .nil pass0 (pa_cons (pv 0) (pa_cons (pe_ix (ix_tupK K rfl) (pv 2) pe_int (fun _ _ => rfl)) pa_nil))))))))
        (pss_one (ps_ret pe_bl))
        pss_nil)
      (pss_cons (ps_if (pt_cmpR op_eq (pe_callB (call_lenK K rfl) (by rfl) T.m_len (by decide +kernel) (pa_cons (pv 2) pa_nil)) pe_int (nomark _))
        (pss_one (ps_ret (pe_and (pe_cmpR op_eq (pe_ix (ix_tupK K rfl) (pv 2) pe_int (fun _ _ => rfl)) pe_str (nomark _)) (pe_and (pe_call G_is_letter (hr.mono (by decide)) (by rfl) T.g_is_letter T.F_is_letter.kp T.b_is_letter .nil pass0 (pa_cons (pv 0) (pa_cons (pe_ix (ix_tupK K rfl) (pv 2) pe_int (fun _ _ => rfl)) pa_nil))) (pe_one (pe_call G_is_letter (hr.mono (by decide)) (by rfl) T.g_is_letter T.F_is_letter.kp T.b_is_letter .nil pass0 (pa_cons (pv 0) (pa_cons (pe_ix (ix_tupK K rfl) (pv 2) pe_int (fun _ _ => rfl)) pa_nil))))))))
        pss_nil)
      (pss_cons (ps_if (pt_cmpR op_ne (pe_callB (call_lenK K rfl) (by rfl) T.m_len (by decide +kernel) (pa_cons (pv 2) pa_nil)) pe_int (nomark _))
        (pss_one (ps_ret pe_bl))
        pss_nil)
      (pss_cons (ps_if (pt_cmpR op_eq (pe_ix (ix_tupK K rfl) (pv 2) pe_int (fun _ _ => rfl)) pe_str (nomark _))
        (pss_one (ps_ret (pe_or (pe_cmpR op_isN (pe_ix (ix_tupK K rfl) (pv 2) pe_int (fun _ _ => rfl)) pe_non (nomark _)) (pe_one (pe_call G_is_guard (hr.mono (by decide)) (by rfl) T.g_is_guard T.F_is_guard.kp T.b_is_guard .nil pass0 (pa_cons (pv 0) (pa_cons (pv 1) (pa_cons (pe_ix (ix_tupK K rfl) (pv 2) pe_int (fun _ _ => rfl)) pa_nil))))))))
        pss_nil)
      (pss_one (ps_ret (pe_and (pe_cmpR op_eq (pe_ix (ix_tupK K rfl) (pv 2) pe_int (fun _ _ => rfl)) pe_str (nomark _)) (pe_one (pe_call G_is_image (hr.mono (by decide)) (by rfl) T.g_is_image T.F_is_image.kp T.b_is_image .nil pass0 (pa_cons (pv 0) (pa_cons (pe_ix (ix_tupK K rfl) (pv 2) pe_int (fun _ _ => rfl)) pa_nil)))))))))))), ?_⟩
    have z5 := hz.five
    have s1 : ∀ c : Nat, (sg c).length ≤ 1000 := fun c => by show 1 ≤ 1000; decide
    have sgI : ∀ {a b : Nat}, sg a = sg b → a = b := fun {a b} h => congrArg (fun s : Str => s.cps.getD 0 0) h
    cases R with
    | two x y u v =>
      have e : H p = some (.tup [.str "two", .str (sg x), .str (sg y), .str (sg u), .str (sg v)]) := hp
      have ix : ∀ {j : Nat} {o : V}, [V.str "two", .str (sg x), .str (sg y), .str (sg u), .str (sg v)][j]? = some o → atI [V.str "two", .str (sg x), .str (sg y), .str (sg u), .str (sg v)] (j : Int) = some o := fun h => atI_nat h
      have good : GoodRR z sh (.two x y u v) ↔ x ∈ z.cps.toList ∧ y ∈ z.cps.toList ∧ u ∈ z.cps.toList ∧ v ∈ z.cps.toList := by
        constructor
        · rintro ⟨R, e, ok⟩
          cases R with
          | two a b c d => cases e; exact ok
          | call => cases e
          | one a b g => cases g <;> cases e
        · exact fun h => ⟨.two x y u v, rfl, h⟩
      have lt : ∀ {c : Nat} {b : Bool}, (b = true ↔ ∃ d ∈ z.cps.toList, sg c = sg d) → (b = true ↔ c ∈ z.cps.toList) := fun {c b} h => h.trans ⟨fun ⟨d, h1, h2⟩ => sgI h2 ▸ h1, fun h1 => ⟨c, h1, rfl⟩⟩
      refine ⟨.ref p, rfl, .ref p, .ty "tuple", .type "tuple", .type "tuple", true, rfl, .ty _, .base (.tup e), kit_ty (by decide +kernel), true, rfl, iteF ?_⟩
      refine ⟨.ref p, rfl, p, _, rfl, .inr (.inl (.inl e)), _, _, rfl, rfl, false, rfl, iteF ?_⟩
      refine ⟨.ref p, rfl, p, _, 0, .str "two", rfl, rfl, .inl (.inl e), ix (j := 0) rfl, .str "two", .ty "str", .type "str", .type "str", true, rfl, .ty _, .base (.str _), kit_ty (by decide +kernel), true, rfl, iteF ?_⟩
      refine ⟨.str z, rfl, .ref p, rfl, p, _, 1, .str (sg x), rfl, rfl, .inl (.inl e), ix (j := 1) rfl, z, sg x, rfl, s1 x, fun b1 h1 => ⟨b1, rfl, ?_⟩⟩
      have h1 := lt h1
      cases b1 with
      | false => exact iteT (iteT (q _ false (Same.refl _) ⟨fun h => (nomatch h), fun h => h1.mpr (good.mp h).1⟩))
      | true =>
      refine iteF ⟨.str z, rfl, .ref p, rfl, p, _, 2, .str (sg y), rfl, rfl, .inl (.inl e), ix (j := 2) rfl, z, sg y, rfl, s1 y, fun b2 h2 => ⟨b2, rfl, ?_⟩⟩
      have h2 := lt h2
      cases b2 with
      | false => exact iteT (q _ false (Same.refl _) ⟨fun h => (nomatch h), fun h => h2.mpr (good.mp h).2.1⟩)
      | true =>
      refine iteF ⟨.ref p, rfl, p, _, rfl, .inr (.inl (.inl e)), rfl, true, rfl, iteT ?_⟩
      refine ⟨.ref p, rfl, p, _, 0, .str "two", rfl, rfl, .inl (.inl e), ix (j := 0) rfl, rfl, true, rfl, iteT ?_⟩
      refine ⟨.str z, rfl, .ref p, rfl, p, _, 3, .str (sg u), rfl, rfl, .inl (.inl e), ix (j := 3) rfl, z, sg u, rfl, s1 u, fun b3 h3 => ⟨b3, rfl, ?_⟩⟩
      have h3 := lt h3
      cases b3 with
      | false => exact iteF (q _ false (Same.refl _) ⟨fun h => (nomatch h), fun h => h3.mpr (good.mp h).2.2.1⟩)
      | true =>
      refine iteT ⟨.str z, rfl, .ref p, rfl, p, _, 4, .str (sg v), rfl, rfl, .inl (.inl e), ix (j := 4) rfl, z, sg v, rfl, s1 v, fun b4 h4 => q _ b4 (Same.refl _) ?_⟩
      exact (lt h4).trans ⟨fun h => good.mpr ⟨h1.mp rfl, h2.mp rfl, h3.mp rfl, h⟩, fun h => (good.mp h).2.2.2⟩
    | call x y im =>
      have e : H p = some (.tup [.str "call", .str x, .str y, .str im]) := hp
      obtain ⟨lx, ly, li⟩ := hsR
      have ix : ∀ {j : Nat} {o : V}, [V.str "call", .str x, .str y, .str im][j]? = some o → atI [V.str "call", .str x, .str y, .str im] (j : Int) = some o := fun h => atI_nat h
      have good : GoodRR z sh (.call x y im) ↔ (∃ c ∈ z.cps.toList, x = sg c) ∧ (∃ c ∈ z.cps.toList, y = sg c) ∧ (∀ c ∈ im.cps.toList, c ∈ z.cps.toList) ∧ im.length = z.length := by
        constructor
        · rintro ⟨R, e, ok⟩
          cases R with
          | two a b c d => cases e
          | call a b c =>
            cases e
            exact ⟨⟨a, ok.1, rfl⟩, ⟨b, ok.2.1, rfl⟩, ok.2.2.2, by rw [tJ_len]; exact ok.2.2.1⟩
          | one a b g => cases g <;> cases e
        · rintro ⟨⟨a, ha, rfl⟩, ⟨b, hb, rfl⟩, h3, h4⟩
          refine ⟨.call a b im.cps.toList, ?_, ha, hb, by rw [Array.length_toList]; exact h4, h3⟩
          show RR.call (sg a) (sg b) im = RR.call (sg a) (sg b) (tJ im.cps.toList)
          rw [tJ_list]
      refine ⟨.ref p, rfl, .ref p, .ty "tuple", .type "tuple", .type "tuple", true, rfl, .ty _, .base (.tup e), kit_ty (by decide +kernel), true, rfl, iteF ?_⟩
      refine ⟨.ref p, rfl, p, _, rfl, .inr (.inl (.inl e)), _, _, rfl, rfl, false, rfl, iteF ?_⟩
      refine ⟨.ref p, rfl, p, _, 0, .str "call", rfl, rfl, .inl (.inl e), ix (j := 0) rfl, .str "call", .ty "str", .type "str", .type "str", true, rfl, .ty _, .base (.str _), kit_ty (by decide +kernel), true, rfl, iteF ?_⟩
      refine ⟨.str z, rfl, .ref p, rfl, p, _, 1, .str x, rfl, rfl, .inl (.inl e), ix (j := 1) rfl, z, x, rfl, lx, fun b1 h1 => ⟨b1, rfl, ?_⟩⟩
      cases b1 with
      | false => exact iteT (iteT (q _ false (Same.refl _) ⟨fun h => (nomatch h), fun h => h1.mpr (good.mp h).1⟩))
      | true =>
      refine iteF ⟨.str z, rfl, .ref p, rfl, p, _, 2, .str y, rfl, rfl, .inl (.inl e), ix (j := 2) rfl, z, y, rfl, ly, fun b2 h2 => ⟨b2, rfl, ?_⟩⟩
      cases b2 with
      | false => exact iteT (q _ false (Same.refl _) ⟨fun h => (nomatch h), fun h => h2.mpr (good.mp h).2.1⟩)
      | true =>
      refine iteF ⟨.ref p, rfl, p, _, rfl, .inr (.inl (.inl e)), rfl, false, rfl, iteF ?_⟩
      refine ⟨.ref p, rfl, p, _, rfl, .inr (.inl (.inl e)), rfl, false, rfl, iteF ?_⟩
      refine ⟨.ref p, rfl, p, _, 0, .str "call", rfl, rfl, .inl (.inl e), ix (j := 0) rfl, rfl, false, by rfl, iteF ?_⟩
      refine ⟨.ref p, rfl, p, _, 0, .str "call", rfl, rfl, .inl (.inl e), ix (j := 0) rfl, rfl, true, rfl, iteT ?_⟩
      refine ⟨.str z, rfl, .ref p, rfl, p, _, 3, .str im, rfl, rfl, .inl (.inl e), ix (j := 3) rfl, z, im, rfl, by omega, li, fun H1 b3 s3 h3 => q _ b3 s3 ?_⟩
      exact h3.trans ⟨fun h => good.mpr ⟨h1.mp rfl, h2.mp rfl, h⟩, fun h => (good.mp h).2.2⟩
    | one x y g =>
      obtain ⟨o, e, lx, ly, hg⟩ : ∃ o, H p = some (.tup [.str "one", .str x, .str y, o]) ∧ x.length ≤ 1000 ∧ y.length ≤ 1000 ∧ ((g = none ∧ o = .non) ∨ ∃ h w s ga, g = some (h, w, s) ∧ o = .ref ga ∧ H ga = some (.tup [.str h, .str w, .str s]) ∧ s.length ≤ 1000) := by
        cases g with
        | none => exact ⟨.non, hp, hsR.1, hsR.2, .inl ⟨rfl, rfl⟩⟩
        | some t =>
          obtain ⟨h, w, s⟩ := t
          obtain ⟨ga, e1, e2⟩ := hp
          exact ⟨.ref ga, e1, hsR.1, hsR.2.1, .inr ⟨h, w, s, ga, rfl, rfl, e2, hsR.2.2.2.2⟩⟩
      have ix : ∀ {j : Nat} {o' : V}, [V.str "one", .str x, .str y, o][j]? = some o' → atI [V.str "one", .str x, .str y, o] (j : Int) = some o' := fun h => atI_nat h
      have good : GoodRR z sh (.one x y g) ↔ (∃ c ∈ z.cps.toList, x = sg c) ∧ (∃ c ∈ z.cps.toList, y = sg c) ∧ (g = none ∨ ∃ h w s, g = some (h, w, s) ∧ ∃ G : Grd, h = G.how ∧ w = G.wh ∧ s = tJ G.sm ∧ G.Ok z sh) := by
        constructor
        · rintro ⟨R, e, ok⟩
          cases R with
          | two a b c d => cases e
          | call a b c => cases e
          | one a b g' =>
            cases g' with
            | none =>
              cases e
              exact ⟨⟨a, ok.1, rfl⟩, ⟨b, ok.2.1, rfl⟩, .inl rfl⟩
            | some G =>
              cases e
              exact ⟨⟨a, ok.1, rfl⟩, ⟨b, ok.2.1, rfl⟩, .inr ⟨_, _, _, rfl, G, rfl, rfl, rfl, ok.2.2 G rfl⟩⟩
        · rintro ⟨⟨a, ha, rfl⟩, ⟨b, hb, rfl⟩, rfl | ⟨h, w, s, rfl, G, rfl, rfl, rfl, ok⟩⟩
          · exact ⟨.one a b none, rfl, ha, hb, fun G h => by cases h⟩
          · exact ⟨.one a b (some G), rfl, ha, hb, fun G' h => by cases h; exact ok⟩
      refine ⟨.ref p, rfl, .ref p, .ty "tuple", .type "tuple", .type "tuple", true, rfl, .ty _, .base (.tup e), kit_ty (by decide +kernel), true, rfl, iteF ?_⟩
      refine ⟨.ref p, rfl, p, _, rfl, .inr (.inl (.inl e)), _, _, rfl, rfl, false, rfl, iteF ?_⟩
      refine ⟨.ref p, rfl, p, _, 0, .str "one", rfl, rfl, .inl (.inl e), ix (j := 0) rfl, .str "one", .ty "str", .type "str", .type "str", true, rfl, .ty _, .base (.str _), kit_ty (by decide +kernel), true, rfl, iteF ?_⟩
      refine ⟨.str z, rfl, .ref p, rfl, p, _, 1, .str x, rfl, rfl, .inl (.inl e), ix (j := 1) rfl, z, x, rfl, lx, fun b1 h1 => ⟨b1, rfl, ?_⟩⟩
      cases b1 with
      | false => exact iteT (iteT (q _ false (Same.refl _) ⟨fun h => (nomatch h), fun h => h1.mpr (good.mp h).1⟩))
      | true =>
      refine iteF ⟨.str z, rfl, .ref p, rfl, p, _, 2, .str y, rfl, rfl, .inl (.inl e), ix (j := 2) rfl, z, y, rfl, ly, fun b2 h2 => ⟨b2, rfl, ?_⟩⟩
      cases b2 with
      | false => exact iteT (q _ false (Same.refl _) ⟨fun h => (nomatch h), fun h => h2.mpr (good.mp h).2.1⟩)
      | true =>
      refine iteF ⟨.ref p, rfl, p, _, rfl, .inr (.inl (.inl e)), rfl, false, rfl, iteF ?_⟩
      refine ⟨.ref p, rfl, p, _, rfl, .inr (.inl (.inl e)), rfl, false, rfl, iteF ?_⟩
      refine ⟨.ref p, rfl, p, _, 0, .str "one", rfl, rfl, .inl (.inl e), ix (j := 0) rfl, rfl, true, rfl, iteT ?_⟩
      refine ⟨.ref p, rfl, p, _, 3, o, rfl, rfl, .inl (.inl e), ix (j := 3) rfl, rfl, ?_⟩
      rcases hg with ⟨rfl, rfl⟩ | ⟨ho, w, sm, ga, rfl, rfl, eg, ls⟩
      · exact ⟨true, rfl, iteT (q _ true (Same.refl _) ⟨fun _ => good.mpr ⟨h1.mp rfl, h2.mp rfl, .inl rfl⟩, fun _ => rfl⟩)⟩
      · refine ⟨false, by rw [decide_eq_false (fun h => nomatch h)], iteF ?_⟩
        refine ⟨.str z, rfl, .str sh, rfl, .ref p, rfl, p, _, 3, .ref ga, rfl, rfl, .inl (.inl e), ix (j := 3) rfl, z, sh, ga, ho, w, sm, rfl, eg, hsh, hz, ls, fun H1 b3 s3 h3 => q _ b3 s3 ?_⟩
        refine h3.trans ⟨fun h => good.mpr ⟨h1.mp rfl, h2.mp rfl, .inr ⟨_, _, _, rfl, h⟩⟩, fun h => ?_⟩
        rcases (good.mp h).2.2 with h | ⟨_, _, _, e, h⟩
        · cases h
        · cases e
          exact h
end
end LH

namespace LH
open PySem PySem.Spec PyProof.Rows L2 NdefX LamX LU
/-- a pattern of which the empty word is not -/
def GoodP (z pt : Str) : Prop := ∃ brs, IsPat z.cps.toList brs pt ∧ ¬ MtA brs []
/-- a world: letters, shape, rules, beginning, bad -/
structure Wd where
  z : Str
  sh : Str
  rs : List Rul
  b : Str
  d : Str
structure Wd.Ok (W : Wd) : Prop where
  let_ : IsLet W.z
  sh : W.sh = "row" ∨ W.sh = "ring"
  rs : ∀ R ∈ W.rs, R.Ok W.z W.sh
  b : GoodP W.z W.b
  d : GoodP W.z W.d
def WdAt (H : Hp) (a : Addr) (W : Wd) : Prop := ∃ (r : Addr) (ps : List Addr), H a = some (.tup [.str W.z, .str W.sh, .ref r, .str W.b, .str W.d]) ∧ H r = some (.tup (vr ps)) ∧ ps.length = W.rs.length ∧ ∀ (i : Nat) (p : Addr) (R : Rul), ps[i]? = some p → W.rs[i]? = some R → RulAt H p R
theorem WdAt.mono {H H' : Hp} {a : Addr} {W : Wd} (t : Tups H H') (h : WdAt H a W) : WdAt H' a W := by
  obtain ⟨r, ps, e1, e2, l, q⟩ := h
  exact ⟨r, ps, t _ _ e1, t _ _ e2, l, fun i p R x y => (q i p R x y).mono t⟩
/-- a world as it is read -/
structure RW where
  z : Str
  sh : Str
  rs : List RR
  b : Str
  d : Str
structure RW.Short (W : RW) : Prop where
  z : W.z.length ≤ 1000
  sh : W.sh.length ≤ 1000
  many : W.rs.length ≤ 2000
  rs : ∀ R ∈ W.rs, R.short
  b : W.b.length ≤ 1000
  d : W.d.length ≤ 1000
def RWAt (H : Hp) (a : Addr) (W : RW) : Prop := ∃ (r : Addr) (ps : List Addr), H a = some (.tup [.str W.z, .str W.sh, .ref r, .str W.b, .str W.d]) ∧ H r = some (.tup (vr ps)) ∧ ps.length = W.rs.length ∧ ∀ (i : Nat) (p : Addr) (R : RR), ps[i]? = some p → W.rs[i]? = some R → RRAt H p R
def toRW (W : Wd) : RW := ⟨W.z, W.sh, W.rs.map toRR, W.b, W.d⟩
def GoodRW (W : RW) : Prop := ∃ V : Wd, W = toRW V ∧ V.Ok
theorem RWAt.mono {H H' : Hp} {a : Addr} {W : RW} (t : Tups H H') (h : RWAt H a W) : RWAt H' a W := by
  obtain ⟨r, ps, e1, e2, l, q⟩ := h
  exact ⟨r, ps, t _ _ e1, t _ _ e2, l, fun i p R x y => (q i p R x y).mono t⟩
theorem toRW_at {H : Hp} {a : Addr} {W : Wd} : RWAt H a (toRW W) ↔ WdAt H a W := by
  constructor
  · rintro ⟨r, ps, e1, e2, l, q⟩
    refine ⟨r, ps, e1, e2, by rw [l]; exact List.length_map _, fun i p R x y => ?_⟩
    have : (toRW W).rs[i]? = some (toRR R) := by
      show (W.rs.map toRR)[i]? = _
      rw [List.getElem?_map, y]
      rfl
    exact toRR_at.mp (q i p _ x this)
  · rintro ⟨r, ps, e1, e2, l, q⟩
    refine ⟨r, ps, e1, e2, by rw [l]; exact (List.length_map _).symm, fun i p R x y => ?_⟩
    have y : (W.rs.map toRR)[i]? = some R := y
    rw [List.getElem?_map] at y
    obtain ⟨R', h1, rfl⟩ := Option.map_eq_some_iff.mp y
    exact toRR_at.mpr (q i p R' x h1)
theorem good_rules {z sh : Str} : ∀ {rs : List RR}, (∀ r ∈ rs, GoodRR z sh r) → ∃ Rs : List Rul, rs = Rs.map toRR ∧ ∀ R ∈ Rs, R.Ok z sh
  | [], _ => ⟨[], rfl, fun _ h => nomatch h⟩
  | r :: rs, h => by
    obtain ⟨R, e, ok⟩ := h r List.mem_cons_self
    obtain ⟨Rs, e2, ok2⟩ := good_rules (rs := rs) fun x hx => h x (List.mem_cons_of_mem _ hx)
    refine ⟨R :: Rs, by rw [List.map_cons, e, e2], fun x hx => ?_⟩
    rcases List.mem_cons.mp hx with rfl | hx
    · exact ok
    · exact ok2 x hx
theorem goodRW_iff {W : RW} : GoodRW W ↔ IsLet W.z ∧ (W.sh = "row" ∨ W.sh = "ring") ∧ (∀ r ∈ W.rs, GoodRR W.z W.sh r) ∧ GoodP W.z W.b ∧ GoodP W.z W.d := by
  constructor
  · rintro ⟨V, rfl, ok⟩
    refine ⟨ok.let_, ok.sh, fun r hr => ?_, ok.b, ok.d⟩
    obtain ⟨R, hR, rfl⟩ := List.mem_map.mp hr
    exact ⟨R, rfl, ok.rs R hR⟩
  · rintro ⟨h1, h2, h3, h4, h5⟩
    obtain ⟨z, sh, rs, b, d⟩ := W
    obtain ⟨Rs, e, ok⟩ := good_rules h3
    have e : rs = Rs.map toRR := e
    exact ⟨⟨z, sh, Rs, b, d⟩, by rw [e]; rfl, h1, h2, ok, h4, h5⟩
section
variable {P : Program} {w : World} {K : PySem.W.Frag} {mg : Str → Option Value} {base : Heap}
/-! ### is_of_hands, is_world -/
def sp_of_handsZ (tabs : List NTab) : Sp := fun vs H Q _ => ∃ (z pt : Str), vs = [.str z, .str pt] ∧ IsLet z ∧ pt.length ≤ 1000 ∧ TabsN tabs H ∧ ∀ H' (b : Bool), ExtN H H' → TabsN tabs H' → (b = true ↔ GoodP z pt) → Q (.bl b) H'
theorem ok_of_handsZ (T : TX K mg) {tabs : List NTab} (G_machine_of : FnOk P w K mg base (L2.CX P w) 7 T.a_machine_of T.fd_machine_of ["letters", "pattern"] (sp_machineZ tabs T.A_NoPattern)) : FnOk P w K mg base CX0 8 T.a_is_of_hands T.fd_is_of_hands ["letters", "thing"] (sp_of_handsZ tabs) := by
  have G_has : FnOk P w K mg base CX0 1 T.a_has T.fd_has ["machine", "word"] sp_has := ok_has T
  refine T.F_is_of_hands.ok sc_is_of_hands (fun vs H Q E h => ?_) (fun cdv A outer s H vs Q E hr h => ?_)
  · obtain ⟨z, pt, rfl, _⟩ := h
    rfl
  · obtain ⟨z, pt, rfl, hz, hl, tb, q⟩ := h
    refine ⟨_, (pss_cons (ps_try_only rfl rfl ⟨rfl, by decide, .inl T.x_NoPattern⟩ LamX.takes0 (fun W_ pn_ xe_ tk_ _ =>
        (pss_one (ps_set (i := 2) sc_is_of_hands.nd rfl (Or.inl rfl) (pe_callS G_machine_of (hr.mono (by decide)) (by rfl) T.g_machine_of T.F_machine_of.kp T.b_machine_of (fun σ => passAt tk_ σ) (pa_cons (pv 0) (pa_cons (pv 1) pa_nil)))))) (fun _ _ _ _ _ _ _ =>
        (pss_one (ps_ret pe_bl))))
      (pss_one (ps_ret (pe_not (pe_call G_has (hr.mono (by decide)) (by rfl) T.g_has T.F_has.kp T.b_has .nil pass0 (pa_cons (pv 2) (pa_cons pe_str pa_nil))))))), ?_⟩
    have exm := PySem.W.exm_ref T.c1_NoPattern_NoPattern T.c2_NoPattern_NoPattern T.c3_NoPattern_NoPattern T.c4_NoPattern_NoPattern
    have zl : Zl z.cps.toList := ⟨by rw [Array.length_toList]; exact hz.five, hz.small⟩
    refine ⟨.str z, rfl, .str pt, rfl, z, .str pt, rfl, hz, tb, .inr ⟨pt, rfl, hl, fun brs H1 p M ip x1 t1 mM kM zM lM cM hM => ?_, fun H1 s1 no => ⟨true, exm, fun _ e he => q _ false (.of s1) (tb.ext s1) ⟨fun h => (nomatch h), fun ⟨brs, h, _⟩ => absurd ⟨brs, h⟩ no⟩, fun h => nomatch h⟩⟩⟩
    have e0 : (Str.ofString "" : Str).cps.toList = [] := by decide +kernel
    refine ⟨.ref p, rfl, p, Str.ofString "", M, rfl, mM, kM, fun _ => ⟨_, rfl, q H1 _ x1 t1 ?_⟩, fun h => absurd (fun c hc => by rw [e0] at hc; cases hc) h⟩
    rw [e0]
    have := hM [] (fun _ h => nomatch h)
    constructor
    · intro h
      refine ⟨brs, ip, fun hm => ?_⟩
      rw [this.mpr hm] at h
      cases h
    · rintro ⟨brs', ip', hn⟩
      have e := isPat_uniq zl ip' ip
      subst e
      cases hh : M.has [] with
      | false => rfl
      | true => exact absurd (this.mp hh) hn
def sp_is_worldZ (tabs : List NTab) : Sp := fun vs H Q _ => ∃ (a : Addr) (W : RW), vs = [.ref a] ∧ RWAt H a W ∧ W.Short ∧ TabsN tabs H ∧ ∀ H' (b : Bool), ExtN H H' → TabsN tabs H' → (b = true ↔ GoodRW W) → Q (.bl b) H'
theorem ok_is_worldZ (T : TX K mg) {tabs : List NTab} (G_machine_of : FnOk P w K mg base (L2.CX P w) 7 T.a_machine_of T.fd_machine_of ["letters", "pattern"] (sp_machineZ tabs T.A_NoPattern)) : FnOk P w K mg base CX0 9 T.a_is_world T.fd_is_world ["thing"] (sp_is_worldZ tabs) := by
  have G_is_of_hands := ok_of_handsZ T G_machine_of
  have G_is_letters : FnOk P w K mg base CX0 2 T.a_is_letters T.fd_is_letters ["thing"] sp_is_lettersZ := ok_is_lettersZ T
  have G_is_one_of : FnOk P w K mg base CX0 1 T.a_is_one_of T.fd_is_one_of ["thing", "texts"] (sp_is_one_ofZ K) := ok_is_one_ofZ T
  have G_is_rule : FnOk P w K mg base CX0 3 T.a_is_rule T.fd_is_rule ["letters", "shape", "thing"] sp_is_ruleZ := ok_is_ruleZ T
  refine T.F_is_world.ok sc_is_world (fun vs H Q E h => ?_) (fun cdv A outer s H vs Q E hr h => ?_)
  · obtain ⟨a, W, rfl, _⟩ := h
    rfl
  · obtain ⟨a, W, rfl, hW, sh, tb, q⟩ := h
    refine ⟨_, (pss_cons (ps_if (PW.pt (pw_or (pt_not (pt_val (pe_callB (call_isiK K rfl) (by rfl) T.m_isinstance (by decide +kernel) (pa_cons (pv 0) (pa_cons (pe_bltn (v := .ty "tuple") (by rfl) T.m_tuple (by decide +kernel) rfl) pa_nil))))) (pw_or1 (pt_cmpR op_ne (pe_callB (call_lenK K rfl) (by rfl) T.m_len (by decide +kernel) (pa_cons (pv 0) pa_nil)) pe_int (nomark _)))))
        (pss_one (ps_ret pe_bl))
        pss_nil)
      (pss_cons (ps_asg (pv 0) (pg_tupK (n := 5) K rfl (by rfl) (pgs_cons (pg_name (i := 1) sc_is_world.nd rfl (Or.inr rfl)) (pgs_cons (pg_name (i := 2) sc_is_world.nd rfl (Or.inr rfl)) (pgs_cons (pg_name (i := 3) sc_is_world.nd rfl (Or.inl rfl)) (pgs_cons (pg_name (i := 4) sc_is_world.nd rfl (Or.inl rfl)) (pgs_cons (pg_name (i := 5) sc_is_world.nd rfl (Or.inl rfl)) pgs_nil)))))))
      (pss_cons (ps_if (PW.pt (pw_or (pt_not (pt_val (pe_call G_is_letters (hr.mono (by decide)) (by rfl) T.g_is_letters T.F_is_letters.kp T.b_is_letters .nil pass0 (pa_cons (pv 1) pa_nil)))) (pw_or (pt_not (pt_val (pe_call G_is_one_of (hr.mono (by decide)) (by rfl) T.g_is_one_of T.F_is_one_of.kp T.b_is_one_of .nil pass0 (pa_cons (pv 2) (pa_cons (pe_glob (v := .ref T.a_SHAPES) (by rfl) T.c_SHAPES rfl) pa_nil))))) (pw_or1 (pt_not (pt_val (pe_callB (call_isiK K rfl) (by rfl) T.m_isinstance (by decide +kernel) (pa_cons (pv 3) (pa_cons (pe_bltn (v := .ty "tuple") (by rfl) T.m_tuple (by decide +kernel) rfl) pa_nil)))))))))
        (pss_one (ps_ret pe_bl))
        pss_nil)
      (pss_cons (ps_if (pt_not (pt_val (pe_callB (cr_allK K rfl rfl) (by rfl) T.m_all (by decide +kernel) (pa_cons (pe_lc (own := [("rule", 6)]) (g := gName 6) (tt := tYes) (by rfl) sc_is_world.nd (pi_tupK K rfl (pv 3)) (blkOk_by (own := [("rule", 6)]) (N := N_is_world) (by kernel_rfl)) (fun _ _ _ _ _ => (pg_name (i := 6) sc_is_world.nd rfl (by first | exact Or.inl rfl | exact Or.inr rfl))) (fun _ _ _ _ _ => pts_nil) (fun _ _ _ _ _ => (pe_call G_is_rule (hr.mono (by decide)) (by rfl) T.g_is_rule T.F_is_rule.kp T.b_is_rule .nil pass0 (pa_cons (pv 1) (pa_cons (pv 2) (pa_cons (pv 6) pa_nil)))))) pa_nil))))
        (pss_one (ps_ret pe_bl))
        pss_nil)
      (pss_one (ps_ret (pe_and (pe_call G_is_of_hands (hr.mono (by decide)) (by rfl) T.g_is_of_hands T.F_is_of_hands.kp T.b_is_of_hands .nil pass0 (pa_cons (pv 1) (pa_cons (pv 4) pa_nil))) (pe_one (pe_call G_is_of_hands (hr.mono (by decide)) (by rfl) T.g_is_of_hands T.F_is_of_hands.kp T.b_is_of_hands .nil pass0 (pa_cons (pv 1) (pa_cons (pv 5) pa_nil))))))))))), ?_⟩
    obtain ⟨rr, ps, e1, e2, l1, rl⟩ := hW
    have no : ∀ H', ExtN H H' → TabsN tabs H' → ¬ GoodRW W → Q (.bl false) H' := fun H' x t n => q H' false x t ⟨fun h => (nomatch h), fun h => absurd h n⟩
    refine ⟨.ref a, rfl, .ref a, .ty "tuple", .type "tuple", .type "tuple", true, rfl, .ty _, .base (.tup e1), kit_ty (by decide +kernel), true, rfl, iteF ?_⟩
    refine ⟨.ref a, rfl, a, _, rfl, .inr (.inl (.inl e1)), rfl, false, rfl, iteF ?_⟩
    refine ⟨.ref a, rfl, a, _, rfl, .inl (.inl e1), rfl, .str W.z, _, rfl, .str W.sh, _, rfl, .ref rr, _, rfl, .str W.b, _, rfl, .str W.d, [], rfl, rfl, ?_⟩
    refine ⟨.str W.z, rfl, W.z, rfl, sh.z, fun H1 b1 s1 h1 => ⟨b1, rfl, ?_⟩⟩
    cases b1 with
    | false => exact iteT (iteT (no _ (.of s1) (tb.ext s1) fun h => absurd (h1.mpr (goodRW_iff.mp h).1) (by decide)))
    | true =>
    have hz := h1.mp rfl
    refine iteF ⟨.str W.sh, rfl, W.sh, T.a_SHAPES, _, rfl, T.k_SHAPES, _, rfl, ?_⟩
    have hmem : W.sh ∈ [Str.ofString "row", Str.ofString "ring"] ↔ (W.sh = "row" ∨ W.sh = "ring") := by
      simp only [List.mem_cons, List.mem_nil_iff, or_false] <;> exact Iff.rfl
    by_cases hsh' : ¬ (W.sh = "row" ∨ W.sh = "ring")
    · exact iteTz (by rw [decide_eq_false fun h => hsh' (hmem.mp h)]; rfl) (iteT (no _ (.of s1) (tb.ext s1) fun h => hsh' (goodRW_iff.mp h).2.1))
    have hsh := Classical.not_not.mp hsh'
    refine iteFz (by rw [decide_eq_true (hmem.mpr hsh)]; rfl) ?_
    have e21 := s1 _ _ e2
    refine ⟨.ref rr, rfl, .ref rr, .ty "tuple", .type "tuple", .type "tuple", true, rfl, .ty _, .base (.tup e21), kit_ty (by decide +kernel), true, rfl, iteF ?_⟩
    refine ⟨.ref rr, rfl, rr, rfl, ⟨_, .inl (.inl e21)⟩, fun D nD => ?_⟩
    refine lc_it (walk_tup (K := K) (a := rr) (xs := vr ps)) (fun i H' => Same H1 H' ∧ ∃ bs : List Bool, H' D = some (.lst (bs.map V.bl)) ∧ bs.length = i ∧ ∀ (j : Nat) (b : Bool) (R : RR), bs[j]? = some b → W.rs[j]? = some R → (b = true ↔ GoodRR W.z W.sh R)) ⟨same_new nD, [], upd_same, rfl, fun j b R x => by simp at x⟩ (fun i H' _ hP => .inl (.inl (hP.1 _ _ e21))) (fun i x H2o H2 hi hP hY => ?_) (fun H2 hP => ?_)
    · obtain ⟨s2, bs, e3, lb, cb⟩ := hP
      obtain ⟨rfl, hx⟩ := hY
      rw [List.getElem?_map] at hx
      obtain ⟨p, hp, rfl⟩ := Option.map_eq_some_iff.mp hx
      have hi := (List.getElem?_eq_some_iff.mp hp).1
      have hR := List.getElem?_eq_getElem (l := W.rs) (i := i) (by omega)
      generalize W.rs[i]'(by omega) = R at hR
      have hp2 := (rl i p R hp hR).mono (Tups.same (s1.trans s2))
      refine ⟨rfl, lcyes ?_⟩
      refine ⟨.str W.z, rfl, .str W.sh, rfl, .ref p, rfl, W.z, W.sh, p, R, rfl, hp2, sh.rs R (List.mem_of_getElem? hR), hz, hsh, fun H3 b s3 hb => ?_⟩
      refine ⟨_, s3 _ _ e3, ?_, fun b o e => ?_, bs ++ [b], ?_, by rw [List.length_append, lb]; rfl, fun j b' R' x1 x2 => ?_⟩
      · rw [List.length_map, lb]
        have := sh.many
        exact fit6 (by omega)
      · rw [upd_ne (ne_of_none e nD)]
        exact s3 _ _ (s2 _ _ e)
      · rw [upd_same, List.map_append]
        rfl
      · by_cases hj : j < bs.length
        · rw [List.getElem?_append_left hj] at x1
          exact cb j b' R' x1 x2
        · have hj2 := (List.getElem?_eq_some_iff.mp x1).1
          rw [List.length_append] at hj2
          have hj2 : j < bs.length + 1 := hj2
          obtain rfl : j = bs.length := by omega
          rw [List.getElem?_append_right (Nat.le_refl _), Nat.sub_self] at x1
          cases x1
          rw [lb, hR] at x2
          cases x2
          exact hb
    · obtain ⟨s2, bs, e3, lb, cb⟩ := hP
      rw [List.length_map, l1] at lb
      have all : bs.all id = true ↔ ∀ r ∈ W.rs, GoodRR W.z W.sh r := by
        rw [List.all_eq_true]
        constructor
        · intro h r hr
          obtain ⟨j, hj⟩ := List.mem_iff_getElem?.mp hr
          have lt := (List.getElem?_eq_some_iff.mp hj).1
          have hb := List.getElem?_eq_getElem (l := bs) (i := j) (by omega)
          exact (cb j _ r hb hj).mp (h _ (List.mem_of_getElem? hb))
        · intro h b hb
          obtain ⟨j, hj⟩ := List.mem_iff_getElem?.mp hb
          have lt := (List.getElem?_eq_some_iff.mp hj).1
          have hr := List.getElem?_eq_getElem (l := W.rs) (i := j) (by omega)
          exact (cb j b _ hj hr).mpr (h _ (List.mem_of_getElem? hr))
      have s02 := s1.trans s2
      refine ⟨D, _, rfl, .inl (.inl e3), _, rfl, ?_⟩
      cases hall : bs.all id with
      | false => exact iteT (no _ (.of s02) (tb.ext s02) fun h => by
          have := all.mpr (goodRW_iff.mp h).2.2.1
          rw [hall] at this
          cases this)
      | true =>
      have hrs := all.mp hall
      refine iteF ⟨.str W.z, rfl, .str W.b, rfl, W.z, W.b, rfl, hz, sh.b, tb.ext s02, fun H3 b3 x3 t3 h3 => ⟨b3, rfl, ?_⟩⟩
      have x03 := (ExtN.of s02).trans x3
      cases b3 with
      | false => exact iteF (no _ x03 t3 fun h => absurd (h3.mpr (goodRW_iff.mp h).2.2.2.1) (by decide))
      | true =>
      refine iteT ⟨.str W.z, rfl, .str W.d, rfl, W.z, W.d, rfl, hz, sh.d, t3, fun H4 b4 x4 t4 h4 => q H4 b4 (x03.trans x4) t4 ?_⟩
      exact h4.trans ⟨fun h => goodRW_iff.mpr ⟨hz, hsh, hrs, h3.mp rfl, h⟩, fun h => (goodRW_iff.mp h).2.2.2.2⟩
end
end LH

namespace LH
open PySem PySem.Spec PyProof.Rows L2 NdefX LamX LU
def part2 (s : Str) : Str := (Txt.partition s (Str.ofString " ")).2.2
def wordsOf (s : Str) : List Str := Txt.split s (Str.ofString " ")
/-- the rule that a line tells -/
def rrOf (line : Str) : Option RR :=
  if (wordsOf line).length < 4 then none
  else if (wordsOf line).length = 9 then some (.one ((wordsOf line).getD 1 Str.empty) ((wordsOf line).getD 3 Str.empty) (some ((wordsOf line).getD 5 Str.empty, (wordsOf line).getD 6 Str.empty, (wordsOf line).getD 8 Str.empty)))
  else if (wordsOf line).length = 6 then some (.call ((wordsOf line).getD 1 Str.empty) ((wordsOf line).getD 3 Str.empty) ((wordsOf line).getD 5 Str.empty))
  else if (wordsOf line).getD 0 Str.empty = Str.ofString "one" then some (.one ((wordsOf line).getD 1 Str.empty) ((wordsOf line).getD 3 Str.empty) none)
  else if ((wordsOf line).getD 1 Str.empty).length = 2 ∧ ((wordsOf line).getD 3 Str.empty).length = 2 then some (.two (((wordsOf line).getD 1 Str.empty).cps.getD 0 0) (((wordsOf line).getD 1 Str.empty).cps.getD 1 0) (((wordsOf line).getD 3 Str.empty).cps.getD 0 0) (((wordsOf line).getD 3 Str.empty).cps.getD 1 0))
  else none
def linesOf (t : Str) : List Str := Txt.split t (Str.ofString "\n")
def midOf (t : Str) : List Str := ((linesOf t).drop 2).take ((linesOf t).length - 3 - 2)
/-- the world that a text tells -/
def rwOf (t : Str) : Option RW :=
  if (linesOf t).length < 5 then none
  else match (midOf t).mapM rrOf with
    | none => none
    | some rs => some ⟨part2 ((linesOf t).getD 0 Str.empty), (linesOf t).getD 1 Str.empty, rs, part2 ((linesOf t).getD ((linesOf t).length - 3) Str.empty), part2 ((linesOf t).getD ((linesOf t).length - 2) Str.empty)⟩
theorem inJ_joinZ (y : Str) : ∀ {parts : List Str}, ∀ p ∈ parts, p.length ≤ (Str.join y parts).length := fun {parts} p hp => inJ_join y p hp
theorem split_short (t y : Str) : ∀ p ∈ Txt.split t y, p.length ≤ t.length := fun p hp => by
  have := inJ_join y p hp
  rw [StrLaws.join_split] at this
  exact this
theorem part2_short (s : Str) : (part2 s).length ≤ s.length := by
  unfold part2
  rcases PyProof.Rows.partition_whole s (Str.ofString " ") with ⟨e, _⟩ | ⟨i, e, _⟩
  · rw [e]
    exact Nat.zero_le _
  · rw [e]
    have t := TL.tl_strSub_end s (i + (Str.ofString " ").length)
    have t2 : (Builtin.Str.strSub s (i + (Str.ofString " ").length) s.length).cps.toList = s.cps.toList.drop (i + (Str.ofString " ").length) := t
    show (Builtin.Str.strSub s (i + (Str.ofString " ").length) s.length).length ≤ s.length
    have h1 : (Builtin.Str.strSub s (i + (Str.ofString " ").length) s.length).cps.toList.length = (Builtin.Str.strSub s (i + (Str.ofString " ").length) s.length).length := Array.length_toList
    have h2 : s.cps.toList.length = s.length := Array.length_toList
    rw [← h1, t2, List.length_drop]
    omega
theorem getD_short {ws : List Str} {n i : Nat} (h : ∀ x ∈ ws, x.length ≤ n) : (ws.getD i Str.empty).length ≤ n := by
  rw [List.getD_eq_getElem?_getD]
  cases e : ws[i]? with
  | none => exact Nat.zero_le _
  | some x => exact h x (List.mem_of_getElem? e)
theorem rrOf_short {line : Str} {r : RR} (hl : line.length ≤ 1000) (h : rrOf line = some r) : r.short := by
  have sh : ∀ i, ((wordsOf line).getD i Str.empty).length ≤ 1000 := fun i => getD_short fun x hx => Nat.le_trans (split_short line _ x hx) hl
  unfold rrOf at h
  split at h
  · cases h
  split at h
  · cases h
    exact ⟨sh _, sh _, sh _, sh _, sh _⟩
  split at h
  · cases h
    exact ⟨sh _, sh _, sh _⟩
  split at h
  · cases h
    exact ⟨sh _, sh _⟩
  split at h
  · cases h
    trivial
  · cases h
section
variable {P : Program} {w : World} {K : PySem.W.Frag} {mg : Str → Option Value} {base : Heap}
/-! ### behind_blank, read_rule -/
def sp_behind : Sp := fun vs H Q _ => ∃ s : Str, vs = [.str s] ∧ s.length ≤ 1000 ∧ ∀ H', Same H H' → Q (.str (part2 s)) H'
theorem ok_behind (T : TX K mg) : FnOk P w K mg base CX0 1 T.a_behind_blank T.fd_behind_blank ["line"] sp_behind := by
  refine T.F_behind_blank.ok sc_behind_blank (fun vs H Q E h => ?_) (fun cdv A outer s H vs Q E hr h => ?_)
  · obtain ⟨s, rfl, _⟩ := h
    rfl
  · obtain ⟨x, rfl, hl, q⟩ := h
    refine ⟨_, (pss_one (ps_ret (pe_ix (ix_tupK K rfl) (pe_partition (pv 0) pe_str) pe_int (fun _ _ => rfl)))), ?_⟩
    refine ⟨.str x, rfl, ⟨_, rfl⟩, x, Str.ofString " ", rfl, rfl, by decide +kernel, Nat.le_trans hl (by decide), fun p np => ?_⟩
    exact ⟨p, _, 2, .str (part2 x), rfl, rfl, .inl (.inl upd_same), atI_nat (j := 2) rfl, q _ (same_new np)⟩
theorem getD_at {ws : List Str} {i : Nat} (h : i < ws.length) : (ws.map V.str)[i]? = some (.str (ws.getD i Str.empty)) := by
  rw [List.getElem?_map, List.getD_eq_getElem?_getD, List.getElem?_eq_getElem h]
  rfl
def sp_read_rule (A : Addr) : Sp := fun vs H Q E => ∃ line : Str, vs = [.str line] ∧ line.length ≤ 1000 ∧ (∀ r H' p, rrOf line = some r → Same H H' → RRAt H' p r → Q (.ref p) H') ∧ (∀ H', Same H H' → rrOf line = none → E (.ref A) none H')
theorem ok_read_rule (T : TX K mg) : FnOk P w K mg base (L2.CX P w) 1 T.a_read_rule T.fd_read_rule ["line"] (sp_read_rule T.A_NoWorld) := by
  refine T.F_read_rule.okX sc_read_rule (fun vs H Q E h => ?_) (fun cdv A outer s0 H vs Q E hr h => ?_)
  · obtain ⟨line, rfl, _⟩ := h
    rfl
  · obtain ⟨line, rfl, hl, q, qE⟩ := h
    refine ⟨_, (pss_cons (ps_set (i := 1) sc_read_rule.nd rfl (Or.inl rfl) (pe_split (pv 0) pe_str))
      (pss_cons (ps_if (pt_cmpR op_lt (pe_callB (call_lenK K rfl) (by rfl) T.m_len (by decide +kernel) (pa_cons (pv 1) pa_nil)) pe_int (nomark _))
        (pss_one (ps_raise rfl (takes_of rfl rfl rfl rfl) (pmk_own PySem.F.excBase_ValueError T.e_NoWorld T.x_NoWorld T.k_NoWorld (raises_own T.b_NoWorld T.t_NoWorld) (by exact rfl))))
        pss_nil)
      (pss_cons (ps_set (i := 2) sc_read_rule.nd rfl (Or.inl rfl) (pe_ix (ix_listK K rfl) (pv 1) pe_int (fun _ _ => rfl)))
      (pss_cons (ps_set (i := 3) sc_read_rule.nd rfl (Or.inl rfl) (pe_ix (ix_listK K rfl) (pv 1) pe_int (fun _ _ => rfl)))
      (pss_cons (ps_if (pt_cmpR op_eq (pe_callB (call_lenK K rfl) (by rfl) T.m_len (by decide +kernel) (pa_cons (pv 1) pa_nil)) pe_int (nomark _))
        (pss_one (ps_ret (pe_tup (pa_cons pe_str (pa_cons (pv 2) (pa_cons (pv 3) (pa_cons (pe_tup (pa_cons (pe_ix (ix_listK K rfl) (pv 1) pe_int (fun _ _ => rfl)) (pa_cons (pe_ix (ix_listK K rfl) (pv 1) pe_int (fun _ _ => rfl)) (pa_cons (pe_ix (ix_listK K rfl) (pv 1) pe_int (fun _ _ => rfl)) pa_nil)))) pa_nil)))))))
        pss_nil)
      (pss_cons (ps_if (pt_cmpR op_eq (pe_callB (call_lenK K rfl) (by rfl) T.m_len (by decide +kernel) (pa_cons (pv 1) pa_nil)) pe_int (nomark _))
        (pss_one (ps_ret (pe_tup (pa_cons pe_str (pa_cons (pv 2) (pa_cons (pv 3) (pa_cons (pe_ix (ix_listK K rfl) (pv 1) pe_int (fun _ _ => rfl)) pa_nil)))))))
        pss_nil)
      (pss_cons (ps_if (pt_cmpR op_eq (pe_ix (ix_listK K rfl) (pv 1) pe_int (fun _ _ => rfl)) pe_str (nomark _))
        (pss_one (ps_ret (pe_tup (pa_cons pe_str (pa_cons (pv 2) (pa_cons (pv 3) (pa_cons pe_non pa_nil)))))))
        pss_nil)
      (pss_cons (ps_if (PW.pt (pw_or (pt_cmpR op_ne (pe_callB call_len_str (by rfl) T.m_len (by decide +kernel) (pa_cons (pv 2) pa_nil)) pe_int (nomark _)) (pw_or1 (pt_cmpR op_ne (pe_callB call_len_str (by rfl) T.m_len (by decide +kernel) (pa_cons (pv 3) pa_nil)) pe_int (nomark _)))))
        (pss_one (ps_raise rfl (takes_of rfl rfl rfl rfl) (pmk_own PySem.F.excBase_ValueError T.e_NoWorld T.x_NoWorld T.k_NoWorld (raises_own T.b_NoWorld T.t_NoWorld) (by exact rfl))))
        pss_nil)
      (pss_one (ps_ret (pe_tup (pa_cons pe_str (pa_cons (pe_ix ix_str (pv 2) pe_int (fun _ _ => rfl)) (pa_cons (pe_ix ix_str (pv 2) pe_int (fun _ _ => rfl)) (pa_cons (pe_ix ix_str (pv 3) pe_int (fun _ _ => rfl)) (pa_cons (pe_ix ix_str (pv 3) pe_int (fun _ _ => rfl)) pa_nil)))))))))))))))), ?_⟩
    have sw : ∀ i, ((wordsOf line).getD i Str.empty).length ≤ 1000 := fun i => getD_short fun x hx => Nat.le_trans (split_short line _ x hx) hl
    have sl : ∀ i, ((wordsOf line).getD i Str.empty).length ≤ sizeLine := fun i => Nat.le_trans (sw i) (by decide)
    refine ⟨.str line, rfl, ⟨_, rfl⟩, line, _, rfl, rfl, by decide +kernel, Nat.le_trans (show line.length + 2 ≤ 20000 by omega) (by decide), fun l nl => ?_⟩
    have s1 := same_new (o := .lst ((Txt.split line (Str.ofString " ")).map V.str)) nl
    have el : (upd H l (.lst ((Txt.split line (Str.ofString " ")).map V.str))) l = some (.lst ((wordsOf line).map V.str)) := upd_same
    generalize upd H l (.lst ((Txt.split line (Str.ofString " ")).map V.str)) = H1 at s1 el
    obtain ⟨o, hoq⟩ : ∃ o, rrOf line = o := ⟨_, rfl⟩
    have un := hoq
    unfold rrOf at un
    generalize wordsOf line = ws at *
    have lw : (ws.map V.str).length = ws.length := List.length_map _
    have ln : ∀ n : Nat, decide (V.int ((ws.map V.str).length : Int) = V.int (n : Int)) = decide (ws.length = n) := fun n => by
      rw [lw]
      exact decide_eq_decide.mpr ⟨fun h => by have := V.int.inj h; omega, fun h => by rw [h]⟩
    refine ⟨.ref l, rfl, _, _, rfl, .inl (.inl (.inl el)), _, _, rfl, rfl, decide (ws.length < 4), by rw [lw]; exact congrArg V.bl (decide_eq_decide.mpr (by omega)), ?_⟩
    by_cases h4 : ws.length < 4
    · rw [if_pos h4] at un
      rw [decide_eq_true h4]
      exact iteT (qE _ s1 (hoq.trans un.symm))
    rw [if_neg h4] at un
    rw [decide_eq_false h4]
    refine iteF ?_
    have at_ : ∀ {i : Nat}, i < ws.length → atI (ws.map V.str) (i : Int) = some (.str (ws.getD i Str.empty)) := fun h => atI_nat (getD_at h)
    refine ⟨.ref l, rfl, l, _, 1, _, rfl, rfl, .inl (.inl el), at_ (i := 1) (by omega), .ref l, rfl, l, _, 3, _, rfl, rfl, .inl (.inl el), at_ (i := 3) (by omega), ?_⟩
    refine ⟨.ref l, rfl, _, _, rfl, .inl (.inl (.inl el)), rfl, decide (ws.length = 9), congrArg V.bl (ln 9), ?_⟩
    by_cases h9 : ws.length = 9
    · rw [if_pos h9] at un
      rw [decide_eq_true h9]
      refine iteT ⟨.str _, rfl, .str _, rfl, .ref l, rfl, l, _, 5, _, rfl, rfl, .inl (.inl el), at_ (i := 5) (by omega), .ref l, rfl, l, _, 6, _, rfl, rfl, .inl (.inl el), at_ (i := 6) (by omega), .ref l, rfl, l, _, 8, _, rfl, rfl, .inl (.inl el), at_ (i := 8) (by omega), by show 3 ≤ sizeLine; decide, fun g ng => ⟨by show 4 ≤ sizeLine; decide, fun p np => ?_⟩⟩
      exact q _ _ p (hoq.trans un.symm) (s1.trans ((same_new ng).trans (same_new np))) ⟨g, upd_same, (same_new np) _ _ upd_same⟩
    rw [if_neg h9] at un
    rw [decide_eq_false h9]
    refine iteF ⟨.ref l, rfl, _, _, rfl, .inl (.inl (.inl el)), rfl, decide (ws.length = 6), congrArg V.bl (ln 6), ?_⟩
    by_cases h6 : ws.length = 6
    · rw [if_pos h6] at un
      rw [decide_eq_true h6]
      refine iteT ⟨.str _, rfl, .str _, rfl, .ref l, rfl, l, _, 5, _, rfl, rfl, .inl (.inl el), at_ (i := 5) (by omega), by show 4 ≤ sizeLine; decide, fun p np => ?_⟩
      exact q _ _ p (hoq.trans un.symm) (s1.trans (same_new np)) upd_same
    rw [if_neg h6] at un
    rw [decide_eq_false h6]
    refine iteF ⟨.ref l, rfl, l, _, 0, _, rfl, rfl, .inl (.inl el), at_ (i := 0) (by omega), rfl, decide (ws.getD 0 Str.empty = Str.ofString "one"), congrArg V.bl str_eqZ, ?_⟩
    by_cases h1 : ws.getD 0 Str.empty = Str.ofString "one"
    · rw [if_pos h1] at un
      rw [decide_eq_true h1]
      refine iteT ⟨.str _, rfl, .str _, rfl, by show 4 ≤ sizeLine; decide, fun p np => ?_⟩
      exact q _ _ p (hoq.trans un.symm) (s1.trans (same_new np)) upd_same
    rw [if_neg h1] at un
    rw [decide_eq_false h1]
    have two : ∀ {x : Str}, x.length = 2 → atI x.cps.toList (0 : Int) = some (x.cps.getD 0 0) ∧ atI x.cps.toList (1 : Int) = some (x.cps.getD 1 0) := fun {x} h => by
      have lx : x.cps.toList.length = 2 := by rw [Array.length_toList]; exact h
      have g : ∀ j : Nat, j < 2 → x.cps.toList[j]? = some (x.cps.getD j 0) := fun j hj => by
        rw [List.getElem?_eq_getElem (by omega), Array.getD_eq_getD_getElem?]
        have hs : j < x.cps.size := by have : x.length = x.cps.size := rfl; omega
        rw [Array.getElem?_eq_getElem hs]
        simp
      exact ⟨atI_nat (j := 0) (g 0 (by decide)), atI_nat (j := 1) (g 1 (by decide))⟩
    have neq : ∀ {x : Str}, (!decide (V.int (x.length : Int) = V.int 2)) = !decide (x.length = 2) := fun {x} => by
      congr 1
      exact decide_eq_decide.mpr ⟨fun h => by have := V.int.inj h; omega, fun h => by rw [h]; rfl⟩
    refine iteF ⟨.str _, rfl, _, rfl, sl 1, rfl, _, congrArg V.bl neq, ?_⟩
    by_cases h2 : ¬ (ws.getD 1 Str.empty).length = 2
    · rw [if_neg fun h => h2 h.1] at un
      exact iteTz (by rw [decide_eq_false h2]; rfl) (iteT (qE _ s1 (hoq.trans un.symm)))
    have h2 := Classical.not_not.mp h2
    refine iteFz (by rw [decide_eq_true h2]; rfl) ⟨.str _, rfl, _, rfl, sl 3, rfl, _, congrArg V.bl neq, ?_⟩
    by_cases h3 : ¬ (ws.getD 3 Str.empty).length = 2
    · rw [if_neg fun h => h3 h.2] at un
      exact iteTz (by rw [decide_eq_false h3]; rfl) (qE _ s1 (hoq.trans un.symm))
    have h3 := Classical.not_not.mp h3
    rw [if_pos ⟨h2, h3⟩] at un
    obtain ⟨a0, a1⟩ := two h2
    obtain ⟨b0, b1⟩ := two h3
    refine iteFz (by rw [decide_eq_true h3]; rfl) ⟨.str _, rfl, _, _, _, rfl, rfl, sl 1, a0, .str _, rfl, _, _, _, rfl, rfl, sl 1, a1, .str _, rfl, _, _, _, rfl, rfl, sl 3, b0, .str _, rfl, _, _, _, rfl, rfl, sl 3, b1, by show 5 ≤ sizeLine; decide, fun p np => ?_⟩
    exact q _ _ p (hoq.trans un.symm) (s1.trans (same_new np)) upd_same
end
end LH

namespace LH
open PySem PySem.Spec PyProof.Rows L2
/-! ### texts one behind the other -/
abbrev tx (cs : List Nat) : Str := ⟨cs.toArray⟩
theorem sl_app (a b : Str) : (a ++ b).length = a.length + b.length := by
  show (a.cps ++ b.cps).size = _
  rw [Array.size_append]
  rfl
theorem st_app (a b : Str) : (a ++ b).cps.toList = a.cps.toList ++ b.cps.toList := by
  show (a.cps ++ b.cps).toList = _
  rw [Array.toList_append]
theorem st_ext {a b : Str} (h : a.cps.toList = b.cps.toList) : a = b := by
  have := congrArg List.toArray h
  exact congrArg Str.mk this
theorem st_empty : Str.empty.cps.toList = [] := rfl
theorem fit {s : Str} (h : s.length ≤ 1000) : s.length ≤ sizeLine := Nat.le_trans h (by decide)
theorem sl_sg (c : Nat) : (sg c).length = 1 := rfl
theorem tx_len' (cs : List Nat) : (tx cs).length = cs.length := List.size_toArray
theorem sl_empty : Str.empty.length = 0 := rfl
theorem sl1 : ("two " : Str).length = 4 := by decide
theorem sl2 : (" -> " : Str).length = 4 := by decide
theorem sl3 : ("call " : Str).length = 5 := by decide
theorem sl4 : (" by " : Str).length = 4 := by decide
theorem sl5 : ("one " : Str).length = 4 := by decide
theorem sl6 : (" when " : Str).length = 6 := by decide
theorem sl7 : (" " : Str).length = 1 := by decide
theorem sl8 : (" in " : Str).length = 4 := by decide
theorem sl9 : ("\n" : Str).length = 1 := by decide
theorem sl10 : ("letters " : Str).length = 8 := by decide
theorem sl11 : ("begin " : Str).length = 6 := by decide
theorem sl12 : ("bad " : Str).length = 4 := by decide
def showR : Rul → Str
  | .two x y u v => Str.empty ++ "two " ++ sg x ++ sg y ++ " -> " ++ sg u ++ sg v
  | .call x y im => Str.empty ++ "call " ++ sg x ++ " -> " ++ sg y ++ " by " ++ tx im
  | .one x y none => Str.empty ++ "one " ++ sg x ++ " -> " ++ sg y
  | .one x y (some G) => Str.empty ++ "one " ++ sg x ++ " -> " ++ sg y ++ " when " ++ G.how ++ " " ++ G.wh ++ " in " ++ tx G.sm
theorem how_len {G : Grd} {z sh : Str} (h : G.Ok z sh) : G.how.length ≤ 4 := by
  rcases h.how with e | e
  · rw [e]; decide
  · rw [e]; decide
theorem wh_len {G : Grd} {z sh : Str} (h : G.Ok z sh) : G.wh.length ≤ 6 := by
  rcases h.wh with e | e | e
  · rw [e]; decide
  · rw [e]; decide
  · rw [e]; decide
theorem showR_len {R : Rul} {z sh : Str} (ok : R.Ok z sh) (hz : z.length ≤ 5) : (showR R).length ≤ 200 := by
  cases R with
  | two x y u v =>
    unfold showR
    simp only [sl_app, sl_sg, sl_empty, sl1, sl2]
    omega
  | call x y im =>
    have := ok.2.2.1
    unfold showR
    simp only [sl_app, sl_sg, sl_empty, sl2, sl3, sl4, tx_len', List.length_cons, List.length_nil]
    omega
  | one x y g =>
    cases g with
    | none =>
      unfold showR
      simp only [sl_app, sl_sg, sl_empty, sl2, sl5]
      omega
    | some G =>
      have gk := ok.2.2 G rfl
      have h1 := how_len gk
      have h2 := wh_len gk
      have h3 := gk.one.2
      unfold showR
      simp only [sl_app, sl_sg, sl_empty, sl2, sl5, sl6, sl7, sl8, tx_len', List.length_cons, List.length_nil]
      omega
section
variable {P : Program} {w : World} {K : PySem.W.Frag} {mg : Str → Option Value} {base : Heap}
def sp_show_rule : Sp := fun vs H Q _ => ∃ (z sh : Str) (p : Addr) (R : Rul), vs = [.ref p] ∧ RulAt H p R ∧ R.Ok z sh ∧ z.length ≤ 5 ∧ ∀ H', Same H H' → Q (.str (showR R)) H'
theorem ok_show_rule (T : TX K mg) : FnOk P w K mg base CX0 1 T.a_show_rule T.fd_show_rule ["rule"] sp_show_rule := by
  refine T.F_show_rule.ok sc_show_rule (fun vs H Q E h => ?_) (fun cdv A outer s H vs Q E hr h => ?_)
  · obtain ⟨z, sh, p, R, rfl, _⟩ := h
    rfl
  · obtain ⟨z, sh, p, R, rfl, hp, ok, hz, q⟩ := h
    refine ⟨_, (pss_cons (ps_if (pt_cmpR op_eq (pe_ix (ix_tupK K rfl) (pv 0) pe_int (fun _ _ => rfl)) pe_str (nomark _))
        (pss_cons (ps_asg (pv 0) (pg_tupK (n := 5) K rfl (by rfl) (pgs_cons (pg_name (i := 1) sc_show_rule.nd rfl (Or.inl rfl)) (pgs_cons (pg_name (i := 2) sc_show_rule.nd rfl (Or.inl rfl)) (pgs_cons (pg_name (i := 3) sc_show_rule.nd rfl (Or.inl rfl)) (pgs_cons (pg_name (i := 4) sc_show_rule.nd rfl (Or.inl rfl)) (pgs_cons (pg_name (i := 5) sc_show_rule.nd rfl (Or.inl rfl)) pgs_nil)))))))
          (pss_one (ps_ret (pe_joined (.cons pe_str (.cons (pe_fmt (pv 2)) (.cons (pe_fmt (pv 3)) (.cons pe_str (.cons (pe_fmt (pv 4)) (.cons (pe_fmt (pv 5)) .nil))))))))))
        pss_nil)
      (pss_cons (ps_asg (pv 0) (pg_tupK (n := 4) K rfl (by rfl) (pgs_cons (pg_name (i := 1) sc_show_rule.nd rfl (Or.inl rfl)) (pgs_cons (pg_name (i := 2) sc_show_rule.nd rfl (Or.inl rfl)) (pgs_cons (pg_name (i := 3) sc_show_rule.nd rfl (Or.inl rfl)) (pgs_cons (pg_name (i := 6) sc_show_rule.nd rfl (Or.inl rfl)) pgs_nil))))))
      (pss_cons (ps_if (pt_cmpR op_eq (pv 1) pe_str (nomark _))
        (pss_one (ps_ret (pe_joined (.cons pe_str (.cons (pe_fmt (pv 2)) (.cons pe_str (.cons (pe_fmt (pv 3)) (.cons pe_str (.cons (pe_fmt (pv 6)) .nil)))))))))
        pss_nil)
      (pss_cons (ps_if (pt_cmpR op_isN (pv 6) pe_non (nomark _))
        (pss_one (ps_ret (pe_joined (.cons pe_str (.cons (pe_fmt (pv 2)) (.cons pe_str (.cons (pe_fmt (pv 3)) .nil)))))))
        pss_nil)
      (pss_cons (ps_asg (pv 6) (pg_tupK (n := 3) K rfl (by rfl) (pgs_cons (pg_name (i := 7) sc_show_rule.nd rfl (Or.inl rfl)) (pgs_cons (pg_name (i := 8) sc_show_rule.nd rfl (Or.inl rfl)) (pgs_cons (pg_name (i := 9) sc_show_rule.nd rfl (Or.inl rfl)) pgs_nil)))))
      (pss_one (ps_ret (pe_joined (.cons pe_str (.cons (pe_fmt (pv 2)) (.cons pe_str (.cons (pe_fmt (pv 3)) (.cons pe_str (.cons (pe_fmt (pv 7)) (.cons pe_str (.cons (pe_fmt (pv 8)) (.cons pe_str (.cons (pe_fmt (pv 9)) .nil)))))))))))))))))), ?_⟩
    have sgl : ∀ c : Nat, (sg c).length ≤ sizeLine := fun c => by rw [sl_sg]; decide
    cases R with
    | two x y u v =>
      have hp : H p = some (.tup [.str "two", .str (sg x), .str (sg y), .str (sg u), .str (sg v)]) := hp
      have sq : SqT K H p [.str "two", .str (sg x), .str (sg y), .str (sg u), .str (sg v)] := .inl (.inl hp)
      refine ⟨.ref p, rfl, p, _, 0, .str "two", rfl, rfl, sq, atI_nat (j := 0) rfl, rfl, _, rfl, iteT ?_⟩
      refine ⟨.ref p, rfl, p, _, rfl, sq, rfl, .str "two", _, rfl, .str (sg x), _, rfl, .str (sg y), _, rfl, .str (sg u), _, rfl, .str (sg v), [], rfl, rfl, ?_⟩
      refine ⟨_, rfl, ?_, .str (sg x), rfl, .inl ⟨_, rfl, sgl _, _, rfl, ?_, .str (sg y), rfl, .inl ⟨_, rfl, sgl _, _, rfl, ?_, _, rfl, ?_, .str (sg u), rfl, .inl ⟨_, rfl, sgl _, _, rfl, ?_, .str (sg v), rfl, .inl ⟨_, rfl, sgl _, _, rfl, ?_, q _ fun _ _ e => e⟩⟩⟩⟩⟩
      all_goals
        refine fit ?_
        simp only [sl_app, sl_sg, sl_empty, sl1, sl2]
        omega
    | call x y im =>
      have hp : H p = some (.tup [.str "call", .str (sg x), .str (sg y), .str (tx im)]) := hp
      have sq : SqT K H p [.str "call", .str (sg x), .str (sg y), .str (tx im)] := .inl (.inl hp)
      have il := ok.2.2.1
      refine ⟨.ref p, rfl, p, _, 0, .str "call", rfl, rfl, sq, atI_nat (j := 0) rfl, rfl, _, rfl, iteF ?_⟩
      refine ⟨.ref p, rfl, p, _, rfl, sq, rfl, .str "call", _, rfl, .str (sg x), _, rfl, .str (sg y), _, rfl, .str (tx im), [], rfl, rfl, ?_⟩
      refine ⟨.str "call", rfl, rfl, _, rfl, iteT ?_⟩
      refine ⟨_, rfl, ?_, .str (sg x), rfl, .inl ⟨_, rfl, sgl _, _, rfl, ?_, _, rfl, ?_, .str (sg y), rfl, .inl ⟨_, rfl, sgl _, _, rfl, ?_, _, rfl, ?_, .str (tx im), rfl, .inl ⟨_, rfl, ?_, _, rfl, ?_, q _ fun _ _ e => e⟩⟩⟩⟩
      all_goals
        refine fit ?_
        simp only [sl_app, sl_sg, sl_empty, sl2, sl3, sl4, tx_len', List.length_cons, List.length_nil]
        omega
    | one x y g =>
      obtain ⟨v, hp, hg⟩ := hp
      have sq : SqT K H p [.str "one", .str (sg x), .str (sg y), v] := .inl (.inl hp)
      refine ⟨.ref p, rfl, p, _, 0, .str "one", rfl, rfl, sq, atI_nat (j := 0) rfl, rfl, _, rfl, iteF ?_⟩
      refine ⟨.ref p, rfl, p, _, rfl, sq, rfl, .str "one", _, rfl, .str (sg x), _, rfl, .str (sg y), _, rfl, v, [], rfl, rfl, ?_⟩
      refine ⟨.str "one", rfl, rfl, _, rfl, iteF ?_⟩
      refine ⟨v, rfl, rfl, _, rfl, ?_⟩
      cases g with
      | none =>
        obtain rfl : v = .non := hg
        refine iteT ?_
        refine ⟨_, rfl, ?_, .str (sg x), rfl, .inl ⟨_, rfl, sgl _, _, rfl, ?_, _, rfl, ?_, .str (sg y), rfl, .inl ⟨_, rfl, sgl _, _, rfl, ?_, q _ fun _ _ e => e⟩⟩⟩
        all_goals
          refine fit ?_
          simp only [sl_app, sl_sg, sl_empty, sl2, sl5]
          omega
      | some G =>
        obtain ⟨gp, rfl, eg⟩ := hg
        have gk := ok.2.2 G rfl
        have h1 := how_len gk
        have h2 := wh_len gk
        have h3 := gk.one.2
        refine iteF ?_
        refine ⟨.ref gp, rfl, gp, [.str G.how, .str G.wh, .str (tx G.sm)], rfl, .inl (.inl eg), rfl, .str G.how, _, rfl, .str G.wh, _, rfl, .str (tx G.sm), [], rfl, rfl, ?_⟩
        refine ⟨_, rfl, ?_, .str (sg x), rfl, .inl ⟨_, rfl, sgl _, _, rfl, ?_, _, rfl, ?_, .str (sg y), rfl, .inl ⟨_, rfl, sgl _, _, rfl, ?_, _, rfl, ?_, .str G.how, rfl, .inl ⟨_, rfl, ?_, _, rfl, ?_, _, rfl, ?_, .str G.wh, rfl, .inl ⟨_, rfl, ?_, _, rfl, ?_, _, rfl, ?_, .str (tx G.sm), rfl, .inl ⟨_, rfl, ?_, _, rfl, ?_, q _ fun _ _ e => e⟩⟩⟩⟩⟩⟩
        all_goals
          refine fit ?_
          try simp only [sl_app, sl_sg, sl_empty, sl2, sl5, sl6, sl7, sl8, tx_len', List.length_cons, List.length_nil]
          omega
end
end LH

namespace LH
open PySem PySem.Spec PyProof.Rows L2
structure Wd.Sm (W : Wd) : Prop where
  many : W.rs.length ≤ 2000
  b : W.b.length ≤ 1000
  d : W.d.length ≤ 1000
theorem fit2 {a b : Str} (h : a.length + b.length ≤ 100000) : a.length + b.length ≤ sizeLine := Nat.le_trans h (by decide)
def linesW (W : Wd) : List Str := [("letters " : Str) ++ W.z, W.sh] ++ W.rs.map showR ++ [("begin " : Str) ++ W.b, ("bad " : Str) ++ W.d]
def nl_ (y : Str) : Str := y ++ "\n"
def textW (W : Wd) : Str := Txt.join ⟨#[]⟩ ((linesW W).map nl_)
theorem sh_len {W : Wd} (ok : W.Ok) : W.sh.length ≤ 4 := by
  rcases ok.sh with e | e
  · rw [e]; decide
  · rw [e]; decide
theorem lines_len {W : Wd} (sm : W.Sm) : (linesW W).length ≤ 2004 := by
  have := sm.many
  unfold linesW
  rw [List.length_append, List.length_append, List.length_map]
  show 2 + W.rs.length + 2 ≤ 2004
  omega
theorem line_len {W : Wd} (ok : W.Ok) (sm : W.Sm) {y : Str} (h : y ∈ linesW W) : y.length ≤ 1100 := by
  have h5 := ok.let_.five
  have h4 := sh_len ok
  have hb := sm.b
  have hd := sm.d
  unfold linesW at h
  rcases List.mem_append.mp h with h | h
  · rcases List.mem_append.mp h with h | h
    · rcases List.mem_cons.mp h with rfl | h
      · rw [sl_app, sl10]
        omega
      · rw [List.mem_singleton.mp h]
        omega
    · obtain ⟨R, hR, rfl⟩ := List.mem_map.mp h
      exact Nat.le_trans (showR_len (ok.rs R hR) h5) (by decide)
  · rcases List.mem_cons.mp h with rfl | h
    · rw [sl_app, sl11]
      omega
    · rw [List.mem_singleton.mp h, sl_app, sl12]
      omega
theorem sum_leN {l : List Nat} {n : Nat} (h : ∀ x ∈ l, x ≤ n) : l.sum ≤ l.length * n := by
  induction l with
  | nil => simp
  | cons a r ih =>
    have h1 := h a List.mem_cons_self
    have h2 := ih fun x hx => h x (List.mem_cons_of_mem _ hx)
    rw [List.sum_cons, List.length_cons, Nat.succ_mul]
    omega
theorem str_atN {zs : List Str} {i : Nat} {x : V} (h : (zs.map V.str)[i]? = some x) : ∃ y, zs[i]? = some y ∧ x = .str y := by
  rw [List.getElem?_map] at h
  cases e : zs[i]? with
  | none =>
    rw [e] at h
    cases h
  | some y =>
    rw [e] at h
    cases h
    exact ⟨y, rfl, rfl⟩
theorem ref_atN {zs : List Addr} {i : Nat} {x : V} (h : (vr zs)[i]? = some x) : ∃ y, zs[i]? = some y ∧ x = .ref y := by
  rw [List.getElem?_map] at h
  cases e : zs[i]? with
  | none =>
    rw [e] at h
    cases h
  | some y =>
    rw [e] at h
    cases h
    exact ⟨y, rfl, rfl⟩
theorem mapF_snoc {α : Type} {zs : List α} {i : Nat} {y : α} (F : α → Str) (h : zs[i]? = some y) : ((zs.take i).map F).map V.str ++ [V.str (F y)] = ((zs.take (i + 1)).map F).map V.str := by
  rw [List.take_add_one, h]
  simp
theorem mapF_snoc2 {α : Type} {zs : List α} {i : Nat} {y : α} (X : List Str) (F : α → Str) (h : zs[i]? = some y) : (X ++ (zs.take i).map F).map V.str ++ [V.str (F y)] = (X ++ (zs.take (i + 1)).map F).map V.str := by
  rw [List.take_add_one, h]
  simp
theorem take_len' {α : Type} (i : Nat) (cs : List α) : (cs.take i).length ≤ cs.length := by
  rw [List.length_take]
  omega
theorem text_fits {W : Wd} (ok : W.Ok) (sm : W.Sm) : (((linesW W).map nl_).map (·.length)).sum + ((linesW W).map nl_).length * (⟨#[]⟩ : Str).length ≤ 16777216 := by
  have h1 : ∀ x ∈ (((linesW W).map nl_).map (·.length)), x ≤ 1101 := fun x hx => by
    obtain ⟨y, hy, rfl⟩ := List.mem_map.mp hx
    obtain ⟨u, hu, rfl⟩ := List.mem_map.mp hy
    have := line_len ok sm hu
    show (u ++ "\n").length ≤ 1101
    rw [sl_app, sl9]
    omega
  have h2 := sum_leN h1
  have h3 := lines_len sm
  rw [List.length_map, List.length_map] at h2
  show _ + _ * 0 ≤ 16777216
  omega
section
variable {P : Program} {w : World} {K : PySem.W.Frag} {mg : Str → Option Value} {base : Heap}
def sp_show_world : Sp := fun vs H Q _ => ∃ (a : Addr) (W : Wd), vs = [.ref a] ∧ WdAt H a W ∧ W.Ok ∧ W.Sm ∧ ∀ H', Same H H' → Q (.str (textW W)) H'
theorem ok_show_world (T : TX K mg) : FnOk P w K mg base CX0 2 T.a_show_world T.fd_show_world ["world"] sp_show_world := by
  have G_show_rule : FnOk P w K mg base CX0 1 T.a_show_rule T.fd_show_rule ["rule"] sp_show_rule := ok_show_rule T
  refine T.F_show_world.ok sc_show_world (fun vs H Q E h => ?_) (fun cdv A outer s H vs Q E hr h => ?_)
  · obtain ⟨a, W, rfl, _⟩ := h
    rfl
  · obtain ⟨a, W, rfl, hW, ok, sm, q⟩ := h
    refine ⟨_, (pss_cons (ps_asg (pv 0) (pg_tupK (n := 5) K rfl (by rfl) (pgs_cons (pg_name (i := 1) sc_show_world.nd rfl (Or.inl rfl)) (pgs_cons (pg_name (i := 2) sc_show_world.nd rfl (Or.inl rfl)) (pgs_cons (pg_name (i := 3) sc_show_world.nd rfl (Or.inl rfl)) (pgs_cons (pg_name (i := 4) sc_show_world.nd rfl (Or.inl rfl)) (pgs_cons (pg_name (i := 5) sc_show_world.nd rfl (Or.inl rfl)) pgs_nil)))))))
      (pss_cons (ps_set (i := 6) sc_show_world.nd rfl (Or.inl rfl) (pe_lst (pa_cons (pe_op op_add_str pe_str (pv 1)) (pa_cons (pv 2) pa_nil))))
      (pss_cons (ps_aug (i := 6) sc_show_world.nd rfl (Or.inl rfl) (pe_lc (own := [("rule", 7)]) (g := gName 7) (tt := tYes) (by rfl) sc_show_world.nd (pi_tupK K rfl (pv 3)) (blkOk_by (own := [("rule", 7)]) (N := N_show_world) (by kernel_rfl)) (fun _ _ _ _ _ => (pg_name (i := 7) sc_show_world.nd rfl (by first | exact Or.inl rfl | exact Or.inr rfl))) (fun _ _ _ _ _ => pts_nil) (fun _ _ _ _ _ => (pe_call G_show_rule (hr.mono (by decide)) (by rfl) T.g_show_rule T.F_show_rule.kp T.b_show_rule .nil pass0 (pa_cons (pv 7) pa_nil)))) iop_ext)
      (pss_cons (ps_aug (i := 6) sc_show_world.nd rfl (Or.inl rfl) (pe_lst (pa_cons (pe_op op_add_str pe_str (pv 4)) (pa_cons (pe_op op_add_str pe_str (pv 5)) pa_nil))) iop_ext)
      (pss_one (ps_ret (pe_m1 PySem.F.slot_str_join PySem.F.type_str_join (mt_joinK K rfl) pe_str (pe_lc (own := [("line", 8)]) (g := gName 8) (tt := tYes) (by rfl) sc_show_world.nd (pi_listK K rfl (pv 6)) (blkOk_by (own := [("line", 8)]) (N := N_show_world) (by kernel_rfl)) (fun _ _ _ _ _ => (pg_name (i := 8) sc_show_world.nd rfl (by first | exact Or.inl rfl | exact Or.inr rfl))) (fun _ _ _ _ _ => pts_nil) (fun _ _ _ _ _ => (pe_op op_add_str (pv 8) pe_str)))))))))), ?_⟩
    obtain ⟨r, ps, ea, er, pl, hps⟩ := hW
    have h5 := ok.let_.five
    have hb := sm.b
    have hd := sm.d
    have hm := sm.many
    refine ⟨.ref a, rfl, a, _, rfl, .inl (.inl ea), rfl, .str W.z, _, rfl, .str W.sh, _, rfl, .ref r, _, rfl, .str W.b, _, rfl, .str W.d, [], rfl, rfl, ?_⟩
    refine ⟨.str W.z, rfl, _, _, rfl, rfl, fit2 (by rw [sl10]; omega), .str W.sh, rfl, by show 2 ≤ sizeLine; decide, fun l nl => ?_⟩
    have s1 := same_new (o := .lst [.str ("letters " ++ W.z), .str W.sh]) nl
    have e1 : (upd H l (.lst [.str ("letters " ++ W.z), .str W.sh])) l = some (.lst ([("letters " : Str) ++ W.z, W.sh].map V.str)) := upd_same
    generalize upd H l (.lst [.str ("letters " ++ W.z), .str W.sh]) = H1 at s1 e1
    refine ⟨.ref l, rfl, .ref r, rfl, r, rfl, ⟨_, .inl (.inl (s1 _ _ er))⟩, fun D nD => ?_⟩
    have fD : H D = none := Same.free s1 nD
    refine lc_it (walk_tup (K := K) (a := r) (xs := vr ps)) (fun i H' => Same H1 H' ∧ H' D = some (.lst (((W.rs.take i).map showR).map V.str))) ⟨same_new nD, upd_same⟩ (fun i H' _ hW => .inl (.inl (hW.1 _ _ (s1 _ _ er)))) (fun i x H2 H2' hi hW hY => ?_) (fun H2 hW => ?_)
    · obtain ⟨s2, e2⟩ := hW
      obtain ⟨rfl, hx⟩ := hY
      obtain ⟨p, hp, rfl⟩ := ref_atN hx
      have hi2 : i < W.rs.length := by
        rw [← pl]
        exact (List.getElem?_eq_some_iff.mp hp).1
      have hR : W.rs[i]? = some W.rs[i] := List.getElem?_eq_getElem hi2
      refine ⟨rfl, lcyes ?_⟩
      refine ⟨.ref p, rfl, W.z, W.sh, p, W.rs[i], rfl, (hps i p _ hp hR).mono (Tups.same (s1.trans s2)), ok.rs _ (List.getElem_mem hi2), h5, fun H3 s3 => ⟨_, s3 _ _ e2, ?_, ?_, ?_⟩⟩
      · rw [List.length_map, List.length_map]
        have := take_len' i W.rs
        exact fit6 (by omega)
      · intro b o e
        rw [upd_ne (ne_of_none e nD)]
        exact s3 _ _ (s2 b o e)
      · rw [upd_same, mapF_snoc showR hR]
    · obtain ⟨s2, e2⟩ := hW
      rw [List.length_map, pl, List.take_of_length_le (Nat.le_refl _)] at e2
      have l2 := s2 _ _ e1
      refine ⟨l, D, _, _, rfl, rfl, l2, e2, ?_, ?_⟩
      · rw [List.length_map, List.length_map, List.length_map]
        exact Nat.le_of_lt (fit6 (by show 2 + W.rs.length ≤ 100000; omega))
      have s3 : Same H (upd H2 l (.lst ([("letters " : Str) ++ W.z, W.sh].map V.str ++ (W.rs.map showR).map V.str))) := fun b o e => by
        rw [upd_ne (ne_of_none e nl)]
        exact s2 _ _ (s1 b o e)
      have e3 : (upd H2 l (.lst ([("letters " : Str) ++ W.z, W.sh].map V.str ++ (W.rs.map showR).map V.str))) l = some (.lst ([("letters " : Str) ++ W.z, W.sh].map V.str ++ (W.rs.map showR).map V.str)) := upd_same
      generalize upd H2 l (.lst ([("letters " : Str) ++ W.z, W.sh].map V.str ++ (W.rs.map showR).map V.str)) = H3 at s3 e3
      refine ⟨.ref l, rfl, .str W.b, rfl, _, _, rfl, rfl, fit2 (by rw [sl11]; omega), .str W.d, rfl, _, _, rfl, rfl, fit2 (by rw [sl12]; omega), by show 2 ≤ sizeLine; decide, fun l4 n4 => ?_⟩
      refine ⟨l, l4, _, _, rfl, rfl, (same_new n4) _ _ e3, upd_same, ?_, ?_⟩
      · rw [List.length_append, List.length_map, List.length_map, List.length_map]
        exact Nat.le_of_lt (fit6 (by show 2 + W.rs.length + 2 ≤ 100000; omega))
      have ee : ([("letters " : Str) ++ W.z, W.sh].map V.str ++ (W.rs.map showR).map V.str) ++ [V.str (("begin " : Str) ++ W.b), V.str (("bad " : Str) ++ W.d)] = (linesW W).map V.str := by
        unfold linesW
        rw [List.map_append, List.map_append]
        rfl
      rw [ee]
      have s5 : ∀ G4 : Hp, Same H3 G4 → Same H (upd G4 l (.lst ((linesW W).map V.str))) := fun G4 g b o e => by
        rw [upd_ne (ne_of_none e nl)]
        exact g _ _ (s3 b o e)
      have s5 := s5 _ (same_new (o := .lst [V.str (("begin " : Str) ++ W.b), V.str (("bad " : Str) ++ W.d)]) n4)
      have e5 : (upd (upd H3 l4 (.lst [V.str (("begin " : Str) ++ W.b), V.str (("bad " : Str) ++ W.d)])) l (.lst ((linesW W).map V.str))) l = some (.lst ((linesW W).map V.str)) := upd_same
      generalize upd (upd H3 l4 (.lst [V.str (("begin " : Str) ++ W.b), V.str (("bad " : Str) ++ W.d)])) l (.lst ((linesW W).map V.str)) = H5 at s5 e5
      refine ⟨⟨_, rfl⟩, .ref l, rfl, l, rfl, ⟨_, .inl (.inl e5)⟩, fun D nD => ?_⟩
      have lD : l ≠ D := ne_of_none e5 nD
      refine lc_it (walk_list (K := K) (a := l) (xs := (linesW W).map V.str)) (fun i H' => H' = upd H5 D (.lst ((((linesW W).take i).map nl_).map V.str))) rfl (fun i H' _ hW => ?_) (fun i x H6 H6' hi hW hY => ?_) (fun H6 hW => ?_)
      · subst hW
        exact .inl (.inl (by rw [upd_ne lD]; exact e5))
      · subst hW
        obtain ⟨rfl, hx⟩ := hY
        obtain ⟨y, hy, rfl⟩ := str_atN hx
        have := line_len ok sm (List.mem_of_getElem? hy)
        refine ⟨rfl, lcyes ⟨.str y, rfl, _, _, rfl, rfl, fit2 (by rw [sl9]; omega), _, upd_same, ?_, ?_⟩⟩
        · rw [List.length_map, List.length_map]
          have h1 := take_len' i (linesW W)
          have h2 := lines_len sm
          exact fit6 (by omega)
        · rw [upd_upd]
          exact congrArg (fun l => upd H5 D (HO.lst l)) (mapF_snoc nl_ hy)
      · subst hW
        rw [List.length_map, List.take_of_length_le (Nat.le_refl _)]
        exact ⟨⟨#[]⟩, D, (linesW W).map nl_, rfl, rfl, .inl (.inl (.inl upd_same)), text_fits ok sm, q _ (s5.trans (same_new nD))⟩
end
end LH

namespace LH
open PySem PySem.Spec PyProof.Rows L2 NdefX LamX LU
theorem lstN {H H' : Hp} {a : Addr} {xs : List V} (x : ExtN H H') (e : H a = some (.lst xs)) : H' a = some (.lst xs) := x a _ e (by intro ps z; cases z)
theorem tupsN {H H' : Hp} (x : ExtN H H') : Tups H H' := fun b xs e => x b _ e (by intro ps z; cases z)
theorem tabs_off {T : List NTab} {H H' : Hp} {r : Addr} {xs : List V} (t : TabsN T H) (hr : H r = some (.lst xs)) (e : ∀ b o, b ≠ r → H b = some o → H' b = some o) : TabsN T H' := fun p hp => by
  obtain ⟨ps, h1, h2, h3⟩ := t p hp
  refine ⟨ps, e _ _ (fun z => by rw [z, hr] at h1; cases h1) h1, h2, fun pos cv hc => ?_⟩
  obtain ⟨c, e1, e2⟩ := h3 pos cv hc
  refine ⟨c, e1, e _ _ (fun z => ?_) e2⟩
  rw [z, hr] at e2
  unfold CodeO at e2
  cases e2
end LH

namespace LH
open PySem PySem.Spec PyProof.Rows L2 NdefX LamX LU
theorem toRR_inj {a b : Rul} (h : toRR a = toRR b) : a = b := by
  have sgI : ∀ {a b : Nat}, sg a = sg b → a = b := fun {a b} h => congrArg (fun s : Str => s.cps.getD 0 0) h
  cases a with
  | two => cases b with
    | two => cases h; rfl
    | call => cases h
    | one x y g => cases g <;> cases h
  | call x y im => cases b with
    | two => cases h
    | call x' y' im' =>
      have h : RR.call (sg x) (sg y) (tJ im) = RR.call (sg x') (sg y') (tJ im') := h
      injection h with h1 h2 h3
      rw [sgI h1, sgI h2, tJ_inj h3]
    | one x y g => cases g <;> cases h
  | one x y g => cases b with
    | two => cases g <;> cases h
    | call => cases g <;> cases h
    | one x' y' g' =>
      cases g with
      | none =>
        cases g' with
        | none =>
          have h : RR.one (sg x) (sg y) none = RR.one (sg x') (sg y') none := h
          injection h with h1 h2
          rw [sgI h1, sgI h2]
        | some G => cases h
      | some G =>
        cases g' with
        | none => cases h
        | some G' =>
          have h : RR.one (sg x) (sg y) (some (G.how, G.wh, tJ G.sm)) = RR.one (sg x') (sg y') (some (G'.how, G'.wh, tJ G'.sm)) := h
          injection h with h1 h2 h3
          obtain ⟨a1, a2, a3⟩ := G
          obtain ⟨b1, b2, b3⟩ := G'
          have h3 := Option.some.inj h3
          injection h3 with h4 h5
          injection h5 with h5 h6
          have h4 : a1 = b1 := h4
          have h5 : a2 = b2 := h5
          have h6 : a3 = b3 := tJ_inj h6
          rw [sgI h1, sgI h2, h4, h5, h6]
theorem maps_inj {α β : Type} {f : α → β} (hf : ∀ {a b}, f a = f b → a = b) : ∀ {a b : List α}, a.map f = b.map f → a = b
  | [], [], _ => rfl
  | [], _ :: _, h => nomatch h
  | _ :: _, [], h => nomatch h
  | _ :: _, _ :: _, h => by
    obtain ⟨h1, h2⟩ := List.cons.inj h
    rw [hf h1, maps_inj hf h2]
theorem toRW_inj {a b : Wd} (h : toRW a = toRW b) : a = b := by
  obtain ⟨a1, a2, a3, a4, a5⟩ := a
  obtain ⟨b1, b2, b3, b4, b5⟩ := b
  have h : RW.mk a1 a2 (a3.map toRR) a4 a5 = RW.mk b1 b2 (b3.map toRR) b4 b5 := h
  injection h with h1 h2 h3 h4 h5
  rw [h1, h2, maps_inj toRR_inj h3, h4, h5]
theorem mapM_snoc {α β : Type} (f : α → Option β) : ∀ (l : List α) (a : α), (l ++ [a]).mapM f = (match l.mapM f with | none => none | some r => match f a with | none => none | some b => some (r ++ [b]))
  | [], a => by
    cases h : f a with
    | none => simp [h]
    | some b => simp [h]
  | x :: l, a => by
    have ih := mapM_snoc f l a
    rw [List.cons_append, List.mapM_cons, List.mapM_cons, ih]
    cases f x with
    | none => rfl
    | some y =>
      cases l.mapM f with
      | none => rfl
      | some r =>
        cases f a with
        | none => rfl
        | some b => rfl
theorem mapM_none {α β : Type} {f : α → Option β} : ∀ {l : List α} {a : α}, a ∈ l → f a = none → l.mapM f = none
  | x :: l, a, h, e => by
    rw [List.mapM_cons]
    rcases List.mem_cons.mp h with rfl | h
    · rw [e]
      rfl
    · rw [mapM_none h e]
      cases f x <;> rfl
theorem cut_23 (xs : List V) (h : 5 ≤ xs.length) : cutV xs (some 2) (some (-3)) = (xs.drop 2).take (xs.length - 3 - 2) := by
  unfold cutV
  have e1 : HT.sIx xs.length 0 (some 2) = 2 := by
    have := HT.sIx_nat xs.length 0 2
    rw [Nat.min_eq_left (by omega)] at this
    exact this
  have e2 : HT.sIx xs.length xs.length (some (-3)) = xs.length - 3 := by
    unfold HT.sIx
    simp
    omega
  rw [e1, e2]
section
variable {P : Program} {w : World} {K : PySem.W.Frag} {mg : Str → Option Value} {base : Heap}
def sp_read_world (tabs : List NTab) (A : Addr) : Sp := fun vs H Q E => ∃ t : Str, vs = [.str t] ∧ t.length ≤ 1000 ∧ TabsN tabs H ∧
  (∀ V H' a, rwOf t = some (toRW V) → V.Ok → textW V = t → ExtN H H' → TabsN tabs H' → WdAt H' a V → Q (.ref a) H') ∧
  (∀ H', ExtN H H' → TabsN tabs H' → (¬ ∃ V, rwOf t = some (toRW V) ∧ V.Ok ∧ textW V = t) → E (.ref A) none H')
theorem ok_read_world (T : TX K mg) {tabs : List NTab} (G_machine_of : FnOk P w K mg base (L2.CX P w) 7 T.a_machine_of T.fd_machine_of ["letters", "pattern"] (sp_machineZ tabs T.A_NoPattern)) : FnOk P w K mg base (L2.CX P w) 10 T.a_read_world T.fd_read_world ["text"] (sp_read_world tabs T.A_NoWorld) := by
  have G_is_world := ok_is_worldZ T G_machine_of
  have G_show_world : FnOk P w K mg base CX0 2 T.a_show_world T.fd_show_world ["world"] sp_show_world := ok_show_world T
  have G_read_rule : FnOk P w K mg base (L2.CX P w) 1 T.a_read_rule T.fd_read_rule ["line"] (sp_read_rule T.A_NoWorld) := ok_read_rule T
  have G_behind_blank : FnOk P w K mg base CX0 1 T.a_behind_blank T.fd_behind_blank ["line"] sp_behind := ok_behind T
  refine T.F_read_world.okX sc_read_world (fun vs H Q E h => ?_) (fun cdv A outer s0 H vs Q E hr h => ?_)
  · obtain ⟨t, rfl, _⟩ := h
    rfl
  · obtain ⟨t, rfl, hl, tb, q, qE⟩ := h
    refine ⟨_, (pss_cons (ps_if (pt_not (pt_val (pe_callB (call_isiK K rfl) (by rfl) T.m_isinstance (by decide +kernel) (pa_cons (pv 0) (pa_cons (pe_bltn (v := .ty "str") (by rfl) T.m_str (by decide +kernel) rfl) pa_nil)))))
        (pss_one (ps_raise rfl (takes_of rfl rfl rfl rfl) (pmk_own PySem.F.excBase_ValueError T.e_NoWorld T.x_NoWorld T.k_NoWorld (raises_own T.b_NoWorld T.t_NoWorld) (by exact rfl))))
        pss_nil)
      (pss_cons (ps_set (i := 1) sc_read_world.nd rfl (Or.inl rfl) (pe_split (pv 0) pe_str))
      (pss_cons (ps_if (pt_cmpR op_lt (pe_callB (call_lenK K rfl) (by rfl) T.m_len (by decide +kernel) (pa_cons (pv 1) pa_nil)) pe_int (nomark _))
        (pss_one (ps_raise rfl (takes_of rfl rfl rfl rfl) (pmk_own PySem.F.excBase_ValueError T.e_NoWorld T.x_NoWorld T.k_NoWorld (raises_own T.b_NoWorld T.t_NoWorld) (by exact rfl))))
        pss_nil)
      (pss_cons (ps_setLcE (i := 2) (own := [("line", 4)]) (g := gName 4) (tt := tYes) rfl rfl (takes_of rfl rfl rfl rfl) (by rfl) sc_read_world.nd rfl rfl (sw_true rfl rfl rfl (by decide +kernel)) (pi_listK K rfl (pe_slice (sl_listK K rfl) (pv 1) (po_some pe_int) (po_some (pe_un un_neg pe_int)))) (blkOk_by (own := [("line", 4)]) (N := N_read_world) (by kernel_rfl)) (fun _ _ _ _ _ => (pg_name (i := 4) sc_read_world.nd rfl (by first | exact Or.inl rfl | exact Or.inr rfl))) (fun _ _ _ _ _ => pts_nil) (fun _ _ _ _ _ _ _ _ tkE_ => (pe_callS G_read_rule (hr.mono (by decide)) (by rfl) T.g_read_rule T.F_read_rule.kp T.b_read_rule tkE_ (pa_cons (pv 4) pa_nil))))
      (pss_cons (ps_set (i := 3) sc_read_world.nd rfl (Or.inl rfl) (pe_tup (pa_cons (pe_call G_behind_blank (hr.mono (by decide)) (by rfl) T.g_behind_blank T.F_behind_blank.kp T.b_behind_blank .nil pass0 (pa_cons (pe_ix (ix_listK K rfl) (pv 1) pe_int (fun _ _ => rfl)) pa_nil)) (pa_cons (pe_ix (ix_listK K rfl) (pv 1) pe_int (fun _ _ => rfl)) (pa_cons (pe_callTy (call_tupleK K rfl) (by rfl) T.m_tuple (by decide +kernel) (pa_cons (pv 2) pa_nil)) (pa_cons (pe_call G_behind_blank (hr.mono (by decide)) (by rfl) T.g_behind_blank T.F_behind_blank.kp T.b_behind_blank .nil pass0 (pa_cons (pe_ix (ix_listK K rfl) (pv 1) (pe_un un_neg pe_int) (fun _ _ => rfl)) pa_nil)) (pa_cons (pe_call G_behind_blank (hr.mono (by decide)) (by rfl) T.g_behind_blank T.F_behind_blank.kp T.b_behind_blank .nil pass0 (pa_cons (pe_ix (ix_listK K rfl) (pv 1) (pe_un un_neg pe_int) (fun _ _ => rfl)) pa_nil)) pa_nil)))))))
      (pss_cons (ps_if (PW.pt (pw_or (pt_not (pt_val (pe_call G_is_world (hr.mono (by decide)) (by rfl) T.g_is_world T.F_is_world.kp T.b_is_world .nil pass0 (pa_cons (pv 3) pa_nil)))) (pw_or1 (pt_cmpR op_ne (pe_call G_show_world (hr.mono (by decide)) (by rfl) T.g_show_world T.F_show_world.kp T.b_show_world .nil pass0 (pa_cons (pv 3) pa_nil)) (pv 0) (nomark _)))))
        (pss_one (ps_raise rfl (takes_of rfl rfl rfl rfl) (pmk_own PySem.F.excBase_ValueError T.e_NoWorld T.x_NoWorld T.k_NoWorld (raises_own T.b_NoWorld T.t_NoWorld) (by exact rfl))))
        pss_nil)
      (pss_one (ps_ret (pv 3))))))))), ?_⟩
    refine ⟨.str t, rfl, .str t, .ty "str", .type "str", .type "str", true, rfl, .ty _, .base (.str t), kit_ty (by decide +kernel), true, rfl, iteF ?_⟩
    have len : ∀ x ∈ linesOf t, x.length ≤ 1000 := fun x hx => Nat.le_trans (split_short t _ x hx) hl
    have many : (linesOf t).length ≤ t.length + 2 := PyProof.Rows.split_le t _
    refine ⟨.str t, rfl, ⟨_, rfl⟩, t, _, rfl, rfl, by decide +kernel, Nat.le_trans (show t.length + 2 ≤ 20000 by omega) (by decide), fun l nl => ?_⟩
    have s1 := same_new (o := .lst ((Txt.split t (Str.ofString "\n")).map V.str)) nl
    have el : (upd H l (.lst ((Txt.split t (Str.ofString "\n")).map V.str))) l = some (.lst ((linesOf t).map V.str)) := upd_same
    generalize upd H l (.lst ((Txt.split t (Str.ofString "\n")).map V.str)) = H1 at s1 el
    obtain ⟨o, hoq⟩ : ∃ o, rwOf t = o := ⟨_, rfl⟩
    have un := hoq
    unfold rwOf at un
    have lw : ((linesOf t).map V.str).length = (linesOf t).length := List.length_map _
    refine ⟨.ref l, rfl, _, _, rfl, .inl (.inl (.inl el)), _, _, rfl, rfl, decide ((linesOf t).length < 5), by rw [lw]; exact congrArg V.bl (decide_eq_decide.mpr (by omega)), ?_⟩
    by_cases h5 : (linesOf t).length < 5
    · rw [if_pos h5] at un
      rw [decide_eq_true h5]
      refine iteT (qE _ (.of s1) (tb.ext s1) ?_)
      rintro ⟨V, e, _⟩
      rw [hoq, ← un] at e
      cases e
    rw [if_neg h5] at un
    rw [decide_eq_false h5]
    refine iteF ?_
    refine ⟨.ref l, rfl, 2, rfl, 3, rfl, _, rfl, l, _, rfl, .inl (.inl el), fun m nm => ?_⟩
    rw [cut_23 _ (by rw [lw]; omega), lw]
    have emid : ((((linesOf t).map V.str).drop 2).take ((linesOf t).length - 3 - 2)) = (midOf t).map V.str := by
      unfold midOf
      rw [List.map_take, List.map_drop]
    rw [emid]
    have sm := same_new (o := .lst ((midOf t).map V.str)) nm
    have em : (upd H1 m (.lst ((midOf t).map V.str))) m = some (.lst ((midOf t).map V.str)) := upd_same
    have s2 := s1.trans sm
    have el2 := sm _ _ el
    generalize upd H1 m (.lst ((midOf t).map V.str)) = H2 at em s2 el2
    have mlen : ∀ x ∈ midOf t, x.length ≤ 1000 := fun x hx => len x (List.mem_of_mem_drop (List.mem_of_mem_take hx))
    have mmany : (midOf t).length ≤ 1002 := by
      unfold midOf
      rw [List.length_take, List.length_drop]
      omega
    refine ⟨m, rfl, ⟨_, .inl (.inl em)⟩, fun D nD => ?_⟩
    refine lc_it (walk_list (K := K) (a := m) (xs := (midOf t).map V.str)) (fun i H' => Same H2 H' ∧ ∃ (ps : List Addr) (rs : List RR), H' D = some (.lst (vr ps)) ∧ ((midOf t).take i).mapM rrOf = some rs ∧ ps.length = i ∧ rs.length = i ∧ ∀ (j : Nat) (p : Addr) (R : RR), ps[j]? = some p → rs[j]? = some R → RRAt H' p R ∧ R.short) ⟨same_new nD, [], [], upd_same, rfl, rfl, rfl, fun j p R x => by simp at x⟩ (fun i H' _ hW => .inl (.inl (hW.1 _ _ em))) (fun i x H3o H3 hi hW hY => ?_) (fun H3 hW => ?_)
    · obtain ⟨s3, ps, rs, eD, hM, lp, lr, cr⟩ := hW
      obtain ⟨rfl, hx⟩ := hY
      rw [List.length_map] at hi
      have hmi := List.getElem?_eq_getElem hi
      rw [List.getElem?_map, hmi] at hx
      cases hx
      have hmem := List.mem_of_getElem? hmi
      generalize (midOf t)[i] = line at hmi hmem
      refine ⟨rfl, lcyes ⟨.str line, rfl, line, rfl, mlen line hmem, fun r H4 p er s4 rp => ?_, fun H4 s4 er => ?_⟩⟩
      · have eD4 := s4 _ _ eD
        refine ⟨vr ps, eD4, by rw [List.length_map]; exact fit6 (by omega), fun b o eb => ?_, ps ++ [p], rs ++ [r], by rw [upd_same, vr_snoc], ?_, by rw [List.length_append, lp]; rfl, by rw [List.length_append, lr]; rfl, ?_⟩
        · rw [upd_ne (ne_of_none eb nD)]
          exact s4 _ _ (s3 _ _ eb)
        · rw [take_snoc hmi, mapM_snoc, hM, er]
        · have tup : Tups H4 (upd H4 D (.lst (vr ps ++ [V.ref p]))) := Tups.lst eD4
          exact snoc_at (R := fun p₁ R₁ => RRAt (upd H4 D (.lst (vr ps ++ [V.ref p]))) p₁ R₁ ∧ RR.short R₁) (by rw [lp, lr]) (fun j p' R' x1 x2 => by
            obtain ⟨c1, c2⟩ := cr j p' R' x1 x2
            exact ⟨(c1.mono (Tups.same s4)).mono (Tups.lst eD4), c2⟩) ⟨rp.mono (Tups.lst eD4), rrOf_short (mlen line hmem) er⟩
      · refine qE _ (.of (s2.trans ((fun b o eb => s4 _ _ (s3 _ _ eb)) : Same H2 H4))) (tb.ext (s2.trans ((fun b o eb => s4 _ _ (s3 _ _ eb)) : Same H2 H4))) ?_
        rintro ⟨V, e, _⟩
        rw [hoq, ← un, mapM_none hmem er] at e
        cases e
    · obtain ⟨s3, ps, rs, eD, hM, lp, lr, cr⟩ := hW
      rw [List.length_map] at hM lp lr
      rw [List.take_of_length_le (Nat.le_refl _)] at hM
      rw [hM] at un
      have el3 := s3 _ _ el2
      have s03 := s2.trans s3
      have pos : 5 ≤ (linesOf t).length := by omega
      have at_ : ∀ {i : Nat}, i < (linesOf t).length → atI ((linesOf t).map V.str) (i : Int) = some (.str ((linesOf t).getD i Str.empty)) := fun h => atI_nat (getD_at h)
      have back : ∀ k : Nat, 1 ≤ k → k ≤ 3 → atI ((linesOf t).map V.str) (-(k : Int)) = some (.str ((linesOf t).getD ((linesOf t).length - k) Str.empty)) := fun k h1 h3 => by
        have e : ixN ((linesOf t).map V.str).length (-(k : Int)) = some ((linesOf t).length - k) := by
          rw [lw]
          unfold ixN
          rw [if_neg (by omega), if_pos (by omega)]
          congr 1
          omega
        show ((ixN ((linesOf t).map V.str).length (-(k : Int))).bind fun j => ((linesOf t).map V.str)[j]?) = _
        rw [e]
        exact getD_at (by omega)
      have gl : ∀ i, ((linesOf t).getD i Str.empty).length ≤ 1000 := fun i => getD_short len
      refine ⟨.ref l, rfl, l, _, 0, _, rfl, rfl, .inl (.inl el3), at_ (i := 0) (by omega), _, rfl, gl 0, fun H4 s4 => ?_⟩
      have el4 := s4 _ _ el3
      refine ⟨.ref l, rfl, l, _, 1, _, rfl, rfl, .inl (.inl el4), at_ (i := 1) (by omega), ?_⟩
      have eD4 := s4 _ _ eD
      refine ⟨.ref D, rfl, D, _, rfl, .inl ⟨.inl (.inl eD4), fun rr nrr => ?_⟩⟩
      have s5 := same_new (o := .tup (vr ps)) nrr
      have err : (upd H4 rr (.tup (vr ps))) rr = some (.tup (vr ps)) := upd_same
      have el5 := s5 _ _ el4
      have s05 := s4.trans s5
      generalize upd H4 rr (.tup (vr ps)) = H5 at err el5 s05
      refine ⟨.ref l, rfl, 3, rfl, l, _, _, _, rfl, rfl, .inl (.inl el5), back 3 (by decide) (by decide), _, rfl, gl _, fun H6 s6 => ?_⟩
      have el6 := s6 _ _ el5
      refine ⟨.ref l, rfl, 2, rfl, l, _, _, _, rfl, rfl, .inl (.inl el6), back 2 (by decide) (by decide), _, rfl, gl _, fun H7 s7 => ⟨by show 5 ≤ sizeLine; decide, fun a na => ?_⟩⟩
      obtain ⟨W, hW⟩ : ∃ W : RW, W = ⟨part2 ((linesOf t).getD 0 Str.empty), (linesOf t).getD 1 Str.empty, rs, part2 ((linesOf t).getD ((linesOf t).length - 3) Str.empty), part2 ((linesOf t).getD ((linesOf t).length - 2) Str.empty)⟩ := ⟨_, rfl⟩
      have un : rwOf t = some W := by rw [hW]; exact hoq.trans un.symm
      have sa := same_new (o := .tup [V.str W.z, V.str W.sh, V.ref rr, V.str W.b, V.str W.d]) na
      have s37 := s05.trans (s6.trans s7)
      have wa : RWAt (upd H7 a (.tup [V.str W.z, V.str W.sh, V.ref rr, V.str W.b, V.str W.d])) a W := ⟨rr, ps, upd_same, sa _ _ (s7 _ _ (s6 _ _ err)), by rw [hW]; exact lp.trans lr.symm, fun i p R x y => by
        rw [hW] at y
        exact ((cr i p R x y).1.mono (Tups.same s37)).mono (Tups.same sa)⟩
      have wsh : W.Short := by
        rw [hW]
        exact ⟨Nat.le_trans (part2_short _) (gl _), gl _, by show rs.length ≤ 2000; rw [lr]; omega, fun R hR => by
          obtain ⟨j, hj⟩ := List.mem_iff_getElem?.mp hR
          have lt : j < rs.length := (List.getElem?_eq_some_iff.mp hj).1
          exact (cr j _ R (List.getElem?_eq_getElem (by omega)) hj).2, Nat.le_trans (part2_short _) (gl _), Nat.le_trans (part2_short _) (gl _)⟩
      have s8 : Same H (upd H7 a (.tup [V.str W.z, V.str W.sh, V.ref rr, V.str W.b, V.str W.d])) := (s03.trans s37).trans sa
      have ev : [V.str (part2 ((linesOf t).getD 0 Str.empty)), V.str ((linesOf t).getD 1 Str.empty), V.ref rr, V.str (part2 ((linesOf t).getD ((linesOf t).length - 3) Str.empty)), V.str (part2 ((linesOf t).getD ((linesOf t).length - 2) Str.empty))] = [V.str W.z, V.str W.sh, V.ref rr, V.str W.b, V.str W.d] := by rw [hW]
      rw [ev]
      have t8 := tb.ext s8
      generalize upd H7 a (.tup [V.str W.z, V.str W.sh, V.ref rr, V.str W.b, V.str W.d]) = H8 at wa s8 t8
      refine ⟨.ref a, rfl, a, W, rfl, wa, wsh, t8, fun H9 b x9 t9 hb => ⟨b, rfl, ?_⟩⟩
      have x09 := (ExtN.of s8).trans x9
      cases b with
      | false =>
        refine iteT (iteT (qE _ x09 t9 ?_))
        rintro ⟨V, e, ok, _⟩
        rw [un] at e
        have := hb.mpr ⟨V, Option.some.inj e, ok⟩
        cases this
      | true =>
      obtain ⟨U, eV, ok⟩ := hb.mp rfl
      have wv : WdAt H9 a U := by
        have := wa.mono (tupsN x9)
        rw [eV] at this
        exact toRW_at.mp this
      have smV : U.Sm := by
        rw [eV] at wsh
        exact ⟨by have := wsh.many; rwa [show (toRW U).rs.length = U.rs.length from List.length_map _] at this, wsh.b, wsh.d⟩
      refine iteF ⟨.ref a, rfl, a, U, rfl, wv, ok, smV, fun H10 s10 => ⟨.str t, rfl, rfl, _, congrArg V.bl (congrArg (!·) str_eqZ), ?_⟩⟩
      by_cases ht : ¬ textW U = t
      · refine iteTz (by rw [decide_eq_false ht]; rfl) (qE _ (x09.trans (.of s10)) (t9.ext s10) ?_)
        rintro ⟨V', e, _, et⟩
        rw [un, eV] at e
        exact ht (toRW_inj (Option.some.inj e) ▸ et)
      · have ht := Classical.not_not.mp ht
        refine iteFz (by rw [decide_eq_true ht]; rfl) ⟨.ref a, rfl, q U _ a (by rw [un, eV]) ok ht (x09.trans (.of s10)) (t9.ext s10) (wv.mono (Tups.same s10))⟩
end
end LH

namespace LH
open PySem PySem.Spec PyProof.Rows L2 NdefX LamX LU
/-! ### what is shown is read as it was -/
theorem stx (a b : Str) : (a ++ b).cps.toList = a.cps.toList ++ b.cps.toList := by
  show (a.cps ++ b.cps).toList = _
  simp
theorem join_listZ (y : Str) : ∀ (parts : List Str), (Str.join y parts).cps.toList = (match parts with | [] => [] | a :: r => a.cps.toList ++ (r.flatMap fun x => y.cps.toList ++ x.cps.toList))
  | [] => rfl
  | [a] => by simp [Str.join]
  | a :: b :: r => by
    show (a ++ y ++ Str.join y (b :: r)).cps.toList = _
    rw [stx, stx, join_listZ y (b :: r)]
    simp
/-- words put together with blanks are found again -/
theorem words_join {ws : List Str} (ne : ws ≠ []) (h : ∀ x ∈ ws, 32 ∉ x.cps.toList) {t : Str} (e : t.cps.toList = (Str.join (Str.ofString " ") ws).cps.toList) : wordsOf t = ws := by
  have et : t = Txt.join (Str.ofString " ") ws := by
    rw [TL.join_eq]
    have := congrArg (fun l : List Nat => tJ l) e
    rwa [tJ_list, tJ_list] at this
  unfold wordsOf
  rw [et]
  exact TL.split_join (s := 32) (S := []) (by decide +kernel) (by decide +kernel) ne h
theorem small_no {z : Str} (hz : IsLet z) {c : Nat} (h : c ∈ z.cps.toList) : c ≠ 32 ∧ c ≠ 10 := by
  have := hz.small c h
  omega
theorem rr_show {z sh : Str} (hz : IsLet z) {R : Rul} (ok : R.Ok z sh) : rrOf (showR R) = some (toRR R) := by
  have l1 : ∀ {c : Nat}, c ∈ z.cps.toList → 32 ∉ (sg c).cps.toList := fun {c} h hm => (small_no hz h).1 (List.mem_singleton.mp hm).symm
  cases R with
  | two x y u v =>
    obtain ⟨ox, oy, ou, ov⟩ := ok
    have hw : wordsOf (showR (.two x y u v)) = [Str.ofString "two", tJ [x, y], Str.ofString "->", tJ [u, v]] := words_join (by simp) (fun s hs => by
      simp only [List.mem_cons, List.mem_nil_iff, or_false] at hs
      rcases hs with rfl | rfl | rfl | rfl
      · decide +kernel
      · intro hm
        rcases List.mem_cons.mp hm with h | h
        · exact (small_no hz ox).1 h.symm
        · exact (small_no hz oy).1 (List.mem_singleton.mp h).symm
      · decide +kernel
      · intro hm
        rcases List.mem_cons.mp hm with h | h
        · exact (small_no hz ou).1 h.symm
        · exact (small_no hz ov).1 (List.mem_singleton.mp h).symm) (by rfl)
    unfold rrOf
    rw [hw]
    rfl
  | call x y im =>
    obtain ⟨ox, oy, ol, oi⟩ := ok
    have hw : wordsOf (showR (.call x y im)) = [Str.ofString "call", sg x, Str.ofString "->", sg y, Str.ofString "by", tJ im] := words_join (by simp) (fun s hs => by
      simp only [List.mem_cons, List.mem_nil_iff, or_false] at hs
      rcases hs with rfl | rfl | rfl | rfl | rfl | rfl
      · decide +kernel
      · exact l1 ox
      · decide +kernel
      · exact l1 oy
      · decide +kernel
      · exact fun hm => (small_no hz (oi 32 hm)).1 rfl) (by
        unfold showR
        simp only [stx]
        show _ = _
        rw [join_listZ]
        simp only [List.flatMap_cons, List.flatMap_nil, List.append_nil]
        simp only [List.append_assoc]
        rfl)
    unfold rrOf
    rw [hw]
    rfl
  | one x y g =>
    obtain ⟨ox, oy, og⟩ := ok
    cases g with
    | none =>
      have hw : wordsOf (showR (.one x y none)) = [Str.ofString "one", sg x, Str.ofString "->", sg y] := words_join (by simp) (fun s hs => by
        simp only [List.mem_cons, List.mem_nil_iff, or_false] at hs
        rcases hs with rfl | rfl | rfl | rfl
        · decide +kernel
        · exact l1 ox
        · decide +kernel
        · exact l1 oy) (by rfl)
      unfold rrOf
      rw [hw]
      rfl
    | some G =>
      have gk := og G rfl
      have n1 : 32 ∉ G.how.cps.toList := by
        rcases gk.how with h | h <;> rw [h] <;> decide +kernel
      have n2 : 32 ∉ G.wh.cps.toList := by
        rcases gk.wh with h | h | h <;> rw [h] <;> decide +kernel
      have hw : wordsOf (showR (.one x y (some G))) = [Str.ofString "one", sg x, Str.ofString "->", sg y, Str.ofString "when", G.how, G.wh, Str.ofString "in", tJ G.sm] := words_join (by simp) (fun s hs => by
        simp only [List.mem_cons, List.mem_nil_iff, or_false] at hs
        rcases hs with rfl | rfl | rfl | rfl | rfl | rfl | rfl | rfl | rfl
        · decide +kernel
        · exact l1 ox
        · decide +kernel
        · exact l1 oy
        · decide +kernel
        · exact n1
        · exact n2
        · decide +kernel
        · exact fun hm => (small_no hz (gk.sm 32 hm)).1 rfl) (by
          unfold showR
          simp only [stx]
          rw [join_listZ]
          simp only [List.flatMap_cons, List.flatMap_nil, List.append_nil]
          simp only [List.append_assoc]
          rfl)
      unfold rrOf
      rw [hw]
      rfl
theorem part2_of {a : List Nat} (h : 32 ∉ a) (b t : Str) (e : t.cps.toList = a ++ 32 :: b.cps.toList) : part2 t = b := by
  have et : t = tJ a ++ Str.ofString " " ++ b := by
    have h : t.cps.toList = (tJ a ++ Str.ofString " " ++ b).cps.toList := by
      rw [stx, stx, e]
      have e1 : (Str.ofString " ").cps.toList = [32] := by decide +kernel
      rw [e1]
      show a ++ 32 :: b.cps.toList = (a ++ [32]) ++ b.cps.toList
      rw [List.append_assoc]
      rfl
    have := congrArg (fun l : List Nat => tJ l) h
    rwa [tJ_list, tJ_list] at this
  unfold part2
  rw [et, TL.partition_app (s := 32) (S := []) (by decide +kernel) (a := tJ a) h]
/-- a line -/
def NoNl (s : Str) : Prop := 10 ∉ s.cps.toList
theorem hd_no {z s h : List Nat} (zl : Zl z) (q : Hd z s h) : 10 ∉ h := fun hm => by
  cases q with
  | dot => exact absurd (List.mem_singleton.mp hm) (by decide)
  | @one c hc =>
    have := zl.2 c hc
    have := List.mem_singleton.mp hm
    omega
  | brk h1 h2 h3 =>
    rcases List.mem_append.mp hm with hm | hm
    · rcases List.mem_cons.mp hm with hm | hm
      · exact absurd hm (by decide)
      · have := zl.2 10 (h3 10 hm)
        omega
    · exact absurd (List.mem_singleton.mp hm) (by decide)
theorem brT_no {z : List Nat} (zl : Zl z) {its : List Itm} {t : List Nat} (q : BrT z its t) : 10 ∉ t := by
  induction q with
  | nil => exact fun h => nomatch h
  | cons hi _ ih =>
    obtain ⟨hm', hd, q, rfl⟩ := hi
    intro hm
    rcases List.mem_append.mp hm with hm | hm
    · rcases List.mem_append.mp hm with hm | hm
      · exact hd_no zl q hm
      · rcases mkI_sign hm with h | h <;> exact absurd h (by decide)
    · exact ih hm
theorem goodP_signs {z pt : Str} (hz : IsLet z) (h : GoodP z pt) : NoNl pt := by
  obtain ⟨brs, ⟨ne, _, ts, ep, hl, ht⟩, _⟩ := h
  intro hm
  rw [ep] at hm
  have zl : Zl z.cps.toList := ⟨by rw [Array.length_toList]; exact hz.five, hz.small⟩
  have sub : ∀ {parts : List Str}, 10 ∈ (Str.join (tJ [124]) parts).cps.toList → ∃ p ∈ parts, 10 ∈ p.cps.toList := fun {parts} => by
    induction parts with
    | nil => exact fun h => nomatch h
    | cons a r ih =>
      intro hc
      cases r with
      | nil => exact ⟨a, List.mem_cons_self, hc⟩
      | cons b r =>
        have hc : 10 ∈ (a ++ tJ [124] ++ Str.join (tJ [124]) (b :: r)).cps.toList := hc
        rw [stx, stx] at hc
        rcases List.mem_append.mp hc with hc | hc
        · rcases List.mem_append.mp hc with hc | hc
          · exact ⟨a, List.mem_cons_self, hc⟩
          · exact absurd (List.mem_singleton.mp hc) (by decide)
        · obtain ⟨p, hp, q⟩ := ih hc
          exact ⟨p, List.mem_cons_of_mem _ hp, q⟩
  rw [TL.join_eq] at hm
  obtain ⟨p, hp, h10⟩ := sub hm
  obtain ⟨t, htm, rfl⟩ := List.mem_map.mp hp
  obtain ⟨j, hj⟩ := List.mem_iff_getElem?.mp htm
  have lt := (List.getElem?_eq_some_iff.mp hj).1
  have bt := (ht j _ t (List.getElem?_eq_getElem (by omega)) hj).2.1
  exact brT_no zl bt h10
theorem lines_no {W : Wd} (ok : W.Ok) : ∀ y ∈ linesW W, NoNl y := by
  have hz := ok.let_
  intro y hy
  unfold linesW at hy
  have lsm : ∀ {c : Nat}, c ∈ W.z.cps.toList → c ≠ 10 := fun h => (small_no hz h).2
  rcases List.mem_append.mp hy with hy | hy
  · rcases List.mem_append.mp hy with hy | hy
    · rcases List.mem_cons.mp hy with rfl | hy
      · intro hm
        rw [stx] at hm
        rcases List.mem_append.mp hm with hm | hm
        · exact absurd hm (by decide +kernel)
        · exact lsm hm rfl
      · rw [List.mem_singleton.mp hy]
        rcases ok.sh with h | h <;> rw [h] <;> (unfold NoNl; decide +kernel)
    · obtain ⟨R, hR, rfl⟩ := List.mem_map.mp hy
      have okR := ok.rs R hR
      have one : ∀ {c : Nat}, c ∈ W.z.cps.toList → 10 ∉ (sg c).cps.toList := fun h hm => lsm h (List.mem_singleton.mp hm).symm
      have k : ∀ {s : Str}, NoNl s → ∀ {u : Str}, NoNl u → NoNl (s ++ u) := fun {s} h {u} h2 hm => by
        rw [stx] at hm
        exact (List.mem_append.mp hm).elim h h2
      have c : ∀ {s : Str}, (decide (10 ∉ s.cps.toList)) = true → NoNl s := fun {s} h => show 10 ∉ s.cps.toList from of_decide_eq_true h
      cases R with
      | two x y u v =>
        obtain ⟨a, b, d, e⟩ := okR
        exact k (k (k (k (k (k (c (by decide +kernel)) (c (by decide +kernel))) (one a)) (one b)) (c (by decide +kernel))) (one d)) (one e)
      | call x y im =>
        obtain ⟨a, b, _, d⟩ := okR
        exact k (k (k (k (k (k (c (by decide +kernel)) (c (by decide +kernel))) (one a)) (c (by decide +kernel))) (one b)) (c (by decide +kernel))) (fun hm => lsm (d 10 hm) rfl)
      | one x y g =>
        obtain ⟨a, b, og⟩ := okR
        cases g with
        | none => exact k (k (k (k (c (by decide +kernel)) (c (by decide +kernel))) (one a)) (c (by decide +kernel))) (one b)
        | some G =>
          have gk := og G rfl
          have n1 : NoNl G.how := by
            rcases gk.how with h | h <;> rw [h] <;> exact c (by decide +kernel)
          have n2 : NoNl G.wh := by
            rcases gk.wh with h | h | h <;> rw [h] <;> exact c (by decide +kernel)
          exact k (k (k (k (k (k (k (k (k (k (c (by decide +kernel)) (c (by decide +kernel))) (one a)) (c (by decide +kernel))) (one b)) (c (by decide +kernel))) n1) (c (by decide +kernel))) n2) (c (by decide +kernel))) (fun hm => lsm (gk.sm 10 hm) rfl)
  · rcases List.mem_cons.mp hy with rfl | hy
    · intro hm
      rw [stx] at hm
      rcases List.mem_append.mp hm with hm | hm
      · exact absurd hm (by decide +kernel)
      · exact goodP_signs hz ok.b hm
    · rw [List.mem_singleton.mp hy]
      intro hm
      rw [stx] at hm
      rcases List.mem_append.mp hm with hm | hm
      · exact absurd hm (by decide +kernel)
      · exact goodP_signs hz ok.d hm
theorem join_nlZ : ∀ ls : List Str, (Str.join ⟨#[]⟩ (ls.map nl_)).cps.toList = (Str.join (Str.ofString "\n") (ls ++ [Str.empty])).cps.toList
  | [] => rfl
  | [a] => by
    show (a ++ "\n" : Str).cps.toList = (a ++ Str.ofString "\n" ++ Str.empty).cps.toList
    rw [stx, stx, stx]
    show _ = _ ++ []
    rw [List.append_nil]
  | a :: b :: r => by
    have ih := join_nlZ (b :: r)
    show (nl_ a ++ ⟨#[]⟩ ++ Str.join ⟨#[]⟩ ((b :: r).map nl_)).cps.toList = (a ++ Str.ofString "\n" ++ Str.join (Str.ofString "\n") (b :: r ++ [Str.empty])).cps.toList
    rw [stx, stx, stx, stx, ih]
    show (a ++ "\n" : Str).cps.toList ++ [] ++ _ = _
    rw [List.append_nil, stx]
theorem lines_show {W : Wd} (ok : W.Ok) : linesOf (textW W) = linesW W ++ [Str.empty] := by
  have et : textW W = Txt.join (Str.ofString "\n") (linesW W ++ [Str.empty]) := by
    have h : (textW W).cps.toList = (Txt.join (Str.ofString "\n") (linesW W ++ [Str.empty])).cps.toList := by
      unfold textW
      rw [TL.join_eq, TL.join_eq]
      exact join_nlZ _
    have := congrArg (fun l : List Nat => tJ l) h
    rwa [tJ_list, tJ_list] at this
  unfold linesOf
  rw [et]
  refine TL.split_join (s := 10) (S := []) (by decide +kernel) (by decide +kernel) (by simp) fun p hp => ?_
  rcases List.mem_append.mp hp with hp | hp
  · exact lines_no ok p hp
  · rw [List.mem_singleton.mp hp]
    exact fun h => nomatch h
theorem mapM_some {α β γ : Type} {f : β → Option γ} {g : α → β} {h : α → γ} : ∀ {l : List α}, (∀ a ∈ l, f (g a) = some (h a)) → (l.map g).mapM f = some (l.map h)
  | [], _ => rfl
  | a :: l, q => by
    rw [List.map_cons, List.mapM_cons, q a List.mem_cons_self, mapM_some (l := l) fun x hx => q x (List.mem_cons_of_mem _ hx)]
    rfl
theorem rw_show {W : Wd} (ok : W.Ok) : rwOf (textW W) = some (toRW W) := by
  have hl := lines_show ok
  have ln : (linesW W ++ [Str.empty]).length = W.rs.length + 5 := by
    unfold linesW
    simp
  have em : midOf (textW W) = W.rs.map showR := by
    unfold midOf
    rw [hl, ln]
    unfold linesW
    show (List.drop 2 ([("letters " : Str) ++ W.z, W.sh] ++ W.rs.map showR ++ [("begin " : Str) ++ W.b, ("bad " : Str) ++ W.d] ++ [Str.empty])).take (W.rs.length + 5 - 3 - 2) = _
    rw [List.append_assoc, List.append_assoc]
    show (W.rs.map showR ++ _).take _ = _
    rw [show W.rs.length + 5 - 3 - 2 = (W.rs.map showR).length by rw [List.length_map]; omega, List.take_left]
  have g : ∀ i, (linesW W ++ [Str.empty]).getD i Str.empty = (([("letters " : Str) ++ W.z, W.sh] ++ W.rs.map showR ++ [("begin " : Str) ++ W.b, ("bad " : Str) ++ W.d]) ++ [Str.empty]).getD i Str.empty := fun i => rfl
  have gb : ∀ k, ([("letters " : Str) ++ W.z, W.sh] ++ W.rs.map showR ++ [("begin " : Str) ++ W.b, ("bad " : Str) ++ W.d] ++ [Str.empty]).getD (W.rs.length + 2 + k) Str.empty = [("begin " : Str) ++ W.b, ("bad " : Str) ++ W.d, Str.empty].getD k Str.empty := fun k => by
    rw [List.getD_eq_getElem?_getD, List.getD_eq_getElem?_getD, List.append_assoc, List.getElem?_append_right (by simp <;> omega)]
    congr 2
    simp <;> omega
  unfold rwOf
  rw [hl, em, ln, if_neg (by omega), mapM_some (f := rrOf) (g := showR) (h := toRR) fun R hR => rr_show ok.let_ (ok.rs R hR)]
  show some (RW.mk _ _ _ _ _) = some (toRW W)
  have e3 : (linesW W ++ [Str.empty]).getD (W.rs.length + 5 - 3) Str.empty = ("begin " : Str) ++ W.b := by
    rw [show W.rs.length + 5 - 3 = W.rs.length + 2 + 0 by omega, g, gb]
    rfl
  have e2 : (linesW W ++ [Str.empty]).getD (W.rs.length + 5 - 2) Str.empty = ("bad " : Str) ++ W.d := by
    rw [show W.rs.length + 5 - 2 = W.rs.length + 2 + 1 by omega, g, gb]
    rfl
  rw [e3, e2]
  have p1 : part2 ((linesW W ++ [Str.empty]).getD 0 Str.empty) = W.z := part2_of (a := (Str.ofString "letters").cps.toList) (by decide +kernel) _ _ (by
    show (("letters " : Str) ++ W.z).cps.toList = _
    rw [stx]
    rfl)
  have p2 : part2 (("begin " : Str) ++ W.b) = W.b := part2_of (a := (Str.ofString "begin").cps.toList) (by decide +kernel) _ _ (by
    rw [stx]
    rfl)
  have p3 : part2 (("bad " : Str) ++ W.d) = W.d := part2_of (a := (Str.ofString "bad").cps.toList) (by decide +kernel) _ _ (by
    rw [stx]
    rfl)
  rw [p1, p2, p3]
  rfl
end LH

namespace LH
open PySem PySem.Spec PyProof.Rows L2 NdefX LamX LU
theorem join_flatS : ∀ ts : List (List Nat), Str.join ⟨#[]⟩ (ts.map tJ) = tJ ts.flatten
  | [] => rfl
  | [t] => by
    show tJ t = tJ (t ++ [])
    rw [List.append_nil]
  | t :: u :: r => by
    have ih := join_flatS (u :: r)
    show tJ t ++ tJ [] ++ Str.join ⟨#[]⟩ ((u :: r).map tJ) = _
    rw [ih, tJ_app, tJ_app, List.append_nil]
    rfl
theorem join_flat (ts : List (List Nat)) : Txt.join ⟨#[]⟩ (ts.map tJ) = tJ ts.flatten := by
  rw [TL.join_eq]
  exact join_flatS ts
theorem flat_len {ts : List (List Nat)} {n : Nat} (h : ∀ t ∈ ts, t.length ≤ n) : ts.flatten.length ≤ ts.length * n := by
  induction ts with
  | nil => simp
  | cons t r ih =>
    have h1 := h t List.mem_cons_self
    have h2 := ih fun x hx => h x (List.mem_cons_of_mem _ hx)
    rw [List.flatten_cons, List.length_append, List.length_cons, Nat.succ_mul]
    omega
abbrev vJ (ts : List (List Nat)) : List V := (ts.map tJ).map V.str
theorem vJ_snoc (ts : List (List Nat)) (t : List Nat) : vJ ts ++ [V.str (tJ t)] = vJ (ts ++ [t]) := by
  show _ = List.map _ (List.map _ (ts ++ [t]))
  rw [List.map_append, List.map_append]
  rfl
theorem vJ_len (ts : List (List Nat)) : (vJ ts).length = ts.length := by rw [List.length_map, List.length_map]
/-- items with their texts -/
def PrT (z : List Nat) (ps : List (Itm × List Nat)) : Prop := ∀ p ∈ ps, ItT z p.1 p.2 ∧ p.2.length ≤ 8
theorem PrT.br {z : List Nat} : ∀ {ps : List (Itm × List Nat)}, PrT z ps → BrT z (ps.map Prod.fst) (ps.map Prod.snd).flatten
  | [], _ => .nil
  | p :: r, h => by
    rw [List.map_cons, List.map_cons, List.flatten_cons]
    exact .cons (h p List.mem_cons_self).1 (PrT.br fun x hx => h x (List.mem_cons_of_mem _ hx))
theorem five_at {g : Int} (h0 : 0 ≤ g) (h1 : g < 5) : ∃ m : Int, atI [V.int 1, V.int 1, V.int 2, V.int 3, V.int 8] g = some (.int m) ∧ 1 ≤ m ∧ m ≤ 8 := by
  have : g = 0 ∨ g = 1 ∨ g = 2 ∨ g = 3 ∨ g = 4 := by omega
  rcases this with rfl | rfl | rfl | rfl | rfl
  · exact ⟨1, rfl, by decide, by decide⟩
  · exact ⟨1, rfl, by decide, by decide⟩
  · exact ⟨2, rfl, by decide, by decide⟩
  · exact ⟨3, rfl, by decide, by decide⟩
  · exact ⟨8, rfl, by decide, by decide⟩
theorem four_at {g v : Int} (h0 : 0 ≤ g) (h1 : g < 4) (v0 : 0 ≤ v) (v1 : v < 8) : ∃ m : Int, atI [V.int 0, V.int 1, V.int 2, V.int v] g = some (.int m) ∧ 0 ≤ m ∧ m ≤ 7 := by
  have : g = 0 ∨ g = 1 ∨ g = 2 ∨ g = 3 := by omega
  rcases this with rfl | rfl | rfl | rfl
  · exact ⟨0, rfl, by decide, by decide⟩
  · exact ⟨1, rfl, by decide, by decide⟩
  · exact ⟨2, rfl, by decide, by decide⟩
  · exact ⟨v, rfl, v0, by omega⟩
theorem mark_atY {g : Int} (h0 : 0 ≤ g) (h1 : g < 4) : ∃ (y : Str) (m : Nat), atI [V.str "", V.str "", V.str "*", V.str "+"] g = some (.str y) ∧ m ≤ 2 ∧ y = tJ (mkI m) := by
  have : g = 0 ∨ g = 1 ∨ g = 2 ∨ g = 3 := by omega
  rcases this with rfl | rfl | rfl | rfl
  · exact ⟨"", 0, rfl, by decide, by decide +kernel⟩
  · exact ⟨"", 0, rfl, by decide, by decide +kernel⟩
  · exact ⟨"*", 1, rfl, by decide, by decide +kernel⟩
  · exact ⟨"+", 2, rfl, by decide, by decide +kernel⟩
theorem plus_atY {g : Int} (h0 : 0 ≤ g) (h1 : g < 2) : ∃ (y : Str) (m : Nat), atI [V.str "", V.str "+"] g = some (.str y) ∧ m ≤ 2 ∧ m ≠ 1 ∧ y = tJ (mkI m) := by
  have : g = 0 ∨ g = 1 := by omega
  rcases this with rfl | rfl
  · exact ⟨"", 0, rfl, by decide, by decide, by decide +kernel⟩
  · exact ⟨"+", 2, rfl, by decide, by decide, by decide +kernel⟩
theorem mkI_lenY (m : Nat) : (mkI m).length ≤ 1 := by
  unfold mkI
  split
  · decide
  · split <;> decide
theorem join_lenY (y : Str) : ∀ {parts : List Str}, (Txt.join y parts).length ≤ (parts.map (·.length)).sum + parts.length * y.length := fun {parts} => by
  rw [TL.join_eq]
  induction parts with
  | nil => exact Nat.zero_le _
  | cons a r ih =>
    cases r with
    | nil =>
      show a.length ≤ a.length + 0 + (0 + 1) * y.length
      omega
    | cons b r =>
      show (a ++ y ++ Str.join y (b :: r)).length ≤ _
      have l1 : (a ++ y ++ Str.join y (b :: r)).length = (a ++ y).length + (Str.join y (b :: r)).length := Array.size_append
      have l2 : (a ++ y).length = a.length + y.length := Array.size_append
      rw [List.map_cons, List.sum_cons, List.length_cons, Nat.add_mul]
      omega
theorem sum_le {l : List Nat} {n : Nat} (h : ∀ x ∈ l, x ≤ n) : l.sum ≤ l.length * n := by
  induction l with
  | nil => simp
  | cons a r ih =>
    have h1 := h a List.mem_cons_self
    have h2 := ih fun x hx => h x (List.mem_cons_of_mem _ hx)
    rw [List.sum_cons, List.length_cons, Nat.succ_mul]
    omega
/-- the text of an item without its mark -/
def HdY (z : Str) (y : Str) : Prop := ∃ s h, Hd z.cps.toList s h ∧ y = tJ h ∧ h.length ≤ 7
theorem PrT.snoc {z : List Nat} {ps : List (Itm × List Nat)} {p : Itm × List Nat} (h : PrT z ps) (hp : ItT z p.1 p.2 ∧ p.2.length ≤ 8) : PrT z (ps ++ [p]) := fun x hx => by
  rcases List.mem_append.mp hx with hx | hx
  · exact h x hx
  · rw [List.mem_singleton.mp hx]
    exact hp
theorem PrT.ins {z : List Nat} {k : Nat} {ps : List (Itm × List Nat)} {p : Itm × List Nat} (h : PrT z ps) (hp : ItT z p.1 p.2 ∧ p.2.length ≤ 8) : PrT z (ps.take k ++ [p] ++ ps.drop k) := fun x hx => by
  rcases List.mem_append.mp hx with hx | hx
  · rcases List.mem_append.mp hx with hx | hx
    · exact h x (List.mem_of_mem_take hx)
    · rw [List.mem_singleton.mp hx]
      exact hp
  · exact h x (List.mem_of_mem_drop hx)
/-- branches, with their texts -/
def BsY (z : List Nat) (bs : List (List Itm × List Nat)) : Prop := ∀ b ∈ bs, b.1 ≠ [] ∧ BrT z b.1 b.2 ∧ b.2.length ≤ 64 ∧ ∃ i ∈ b.1, i.m ≠ 1
theorem BsY.snoc {z : List Nat} {bs : List (List Itm × List Nat)} {b : List Itm × List Nat} (h : BsY z bs) (hb : b.1 ≠ [] ∧ BrT z b.1 b.2 ∧ b.2.length ≤ 64 ∧ ∃ i ∈ b.1, i.m ≠ 1) : BsY z (bs ++ [b]) := fun x hx => by
  rcases List.mem_append.mp hx with hx | hx
  · exact h x hx
  · rw [List.mem_singleton.mp hx]
    exact hb
theorem many_snocY (bs : List (List Itm × List Nat)) (b : List Itm × List Nat) : manyI ((bs ++ [b]).map Prod.fst) = manyI (bs.map Prod.fst) + b.1.length := by
  unfold manyI
  rw [List.map_append, List.map_append, List.sum_append]
  simp
theorem goodP_of {z : Str} {bs : List (List Itm × List Nat)} (h : BsY z.cps.toList bs) (ne : bs ≠ []) (m : manyI (bs.map Prod.fst) ≤ 8) : GoodP z (Txt.join (tJ [124]) ((bs.map Prod.snd).map tJ)) := by
  have pt : PatT z.cps.toList (bs.map Prod.fst) (Txt.join (tJ [124]) ((bs.map Prod.snd).map tJ)) := by
    refine ⟨bs.map Prod.snd, rfl, by rw [List.length_map, List.length_map], fun j br t x y => ?_⟩
    rw [List.getElem?_map] at x y
    obtain ⟨b, h1, rfl⟩ := Option.map_eq_some_iff.mp x
    rw [h1] at y
    cases y
    obtain ⟨a1, a2, a3, _⟩ := h b (List.mem_of_getElem? h1)
    exact ⟨a1, a2, by omega⟩
  refine ⟨bs.map Prod.fst, ⟨fun e => ne (List.map_eq_nil_iff.mp e), m, pt⟩, ?_⟩
  rintro ⟨br, hb, hm⟩
  obtain ⟨b, h1, rfl⟩ := List.mem_map.mp hb
  obtain ⟨i, hi, h2⟩ := (h b h1).2.2.2
  exact h2 ((mt_nil fun j hj => (pt.ok _ hb j hj).1).mp hm i hi)
theorem goodP_one {z : Str} {c : Nat} (h : c ∈ z.cps.toList) : GoodP z (sg c) := by
  have := goodP_of (z := z) (bs := [([⟨[c], 0⟩], [c])]) (fun b hb => by
    rw [List.mem_singleton.mp hb]
    exact ⟨fun h => (nomatch h), BrT.cons (t := [c]) (u := []) ⟨(by show 0 ≤ 2; decide), [c], .one h, rfl⟩ .nil, by show 1 ≤ 64; decide, ⟨[c], 0⟩, List.mem_singleton.mpr rfl, (by show (0 : Nat) ≠ 1; decide)⟩) (by simp) (by show 1 ≤ 8; decide)
  rw [TL.join_eq] at this
  exact this
section
variable {P : Program} {w : World} {K : PySem.W.Frag} {mg : Str → Option Value} {base : Heap}
def sp_item : Sp := fun vs H Q _ => ∃ (r : Addr) (z : Str), vs = [.ref r, .str z] ∧ RowAt H r ∧ IsLet z ∧ ∀ H' (y : Str), Off r H H' → RowAt H' r → HdY z y → Q (.str y) H'
theorem ok_law_item (T : TX K mg) : FnOk P w K mg base CX0 4 T.a_law_item T.fd_law_item ["well", "letters"] sp_item := by
  have G_law_draw : FnOk P w K mg base CX0 1 T.a_law_draw T.fd_law_draw ["well", "many"] sp_law_draw := ok_law_draw T
  have G_law_one_of : FnOk P w K mg base CX0 2 T.a_law_one_of T.fd_law_one_of ["well", "letters"] sp_law_one_of := ok_law_one_of T
  have G_law_some : FnOk P w K mg base CX0 3 T.a_law_some T.fd_law_some ["well", "letters"] sp_law_some := ok_law_some T
  refine T.F_law_item.ok sc_law_item (fun vs H Q E h => ?_) (fun cdv A outer s H vs Q E hr h => ?_)
  · obtain ⟨r, z, rfl, _⟩ := h
    rfl
  · obtain ⟨r, z, rfl, hR, hz, q⟩ := h
    refine ⟨_, (pss_cons (ps_set (i := 2) sc_law_item.nd rfl (Or.inl rfl) (pe_call G_law_one_of (hr.mono (by decide)) (by rfl) T.g_law_one_of T.F_law_one_of.kp T.b_law_one_of .nil pass0 (pa_cons (pv 0) (pa_cons (pv 1) pa_nil))))
      (pss_one (ps_ret (pe_ix (ix_listK K rfl) (pe_lst (pa_cons (pv 2) (pa_cons (pv 2) (pa_cons pe_str (pa_cons (pe_op op_add_str (pe_op op_add_str pe_str (pe_call G_law_some (hr.mono (by decide)) (by rfl) T.g_law_some T.F_law_some.kp T.b_law_some .nil pass0 (pa_cons (pv 0) (pa_cons (pv 1) pa_nil)))) pe_str) pa_nil))))) (pe_call G_law_draw (hr.mono (by decide)) (by rfl) T.g_law_draw T.F_law_draw.kp T.b_law_draw .nil pass0 (pa_cons (pv 0) (pa_cons pe_int pa_nil))) (fun _ _ => rfl))))), ?_⟩
    have h1 := hz.one
    have h5 := hz.five
    refine ⟨.ref r, rfl, .str z, rfl, r, z, rfl, hR, h1, by omega, fun H1 c o1 R1 hc => ?_⟩
    refine ⟨.str (sg c), rfl, .str (sg c), rfl, .ref r, rfl, .str z, rfl, r, z, rfl, R1, hz, fun H2 cs o2 R2 sc lc => ?_⟩
    have lcs : cs.length ≤ 5 := Nat.le_trans sc.length_le (by rw [Array.length_toList]; exact h5)
    have l1 : (tx cs).length = cs.length := tx_len' cs
    have lb : ("[" : Str).length = 1 := by decide
    have le : ("]" : Str).length = 1 := by decide
    have up : cs.Pairwise (· < ·) := hz.rise.sublist sc
    have cne : cs ≠ [] := fun e => by rw [e] at lc; exact absurd lc (by decide)
    have sm : HdY z (("[" : Str) ++ tx cs ++ "]") := ⟨cs, 91 :: cs ++ [93], .brk cne up (fun d hd => sc.subset hd), by
      have e1 : ("[" : Str) = tJ [91] := by decide +kernel
      have e2 : ("]" : Str) = tJ [93] := by decide +kernel
      rw [e1, e2]
      show tJ [91] ++ tJ cs ++ tJ [93] = _
      rw [tJ_app, tJ_app]
      rfl, by simp; omega⟩
    refine ⟨_, _, rfl, rfl, fit2 (by rw [lb, l1]; omega), _, _, rfl, rfl, fit2 (by rw [sl_app, lb, le, l1]; omega), by show 4 ≤ sizeLine; decide, fun l nl => ?_⟩
    refine ⟨.ref r, rfl, r, 4, rfl, R2.new nl, by decide, by decide, fun H4 g o4 R4 g0 g1 => ?_⟩
    have e4 := o4 _ _ (R2.ne nl).symm (upd_same (H := H2) (a := l) (o := .lst [.str (sg c), .str (sg c), .str ".", .str (("[" : Str) ++ tx cs ++ "]")]))
    have off : Off r H H4 := (o1.trans o2).trans ((Off.new nl).trans o4)
    have sc1 : HdY z (sg c) := ⟨[c], [c], .one hc, rfl, by show 1 ≤ 7; decide⟩
    have zne : z.cps.toList ≠ [] := fun e => by rw [e] at hc; cases hc
    have sdot : HdY z (Str.ofString ".") := ⟨z.cps.toList, [46], .dot zne, by decide +kernel, by decide⟩
    have : g = 0 ∨ g = 1 ∨ g = 2 ∨ g = 3 := by omega
    rcases this with rfl | rfl | rfl | rfl
    · exact ⟨l, _, 0, _, rfl, rfl, .inl (.inl e4), rfl, q _ _ off R4 sc1⟩
    · exact ⟨l, _, 1, _, rfl, rfl, .inl (.inl e4), rfl, q _ _ off R4 sc1⟩
    · exact ⟨l, _, 2, _, rfl, rfl, .inl (.inl e4), rfl, q _ _ off R4 sdot⟩
    · exact ⟨l, _, 3, _, rfl, rfl, .inl (.inl e4), rfl, q _ _ off R4 sm⟩
def sp_pat : Sp := fun vs H Q _ => ∃ (r : Addr) (z : Str), vs = [.ref r, .str z] ∧ RowAt H r ∧ IsLet z ∧ ∀ H' (y : Str), Off r H H' → RowAt H' r → GoodP z y → y.length ≤ 30 → Q (.str y) H'
theorem ok_law_pattern (T : TX K mg) : FnOk P w K mg base CX0 5 T.a_law_pattern T.fd_law_pattern ["well", "letters"] sp_pat := by
  have G_law_draw : FnOk P w K mg base CX0 1 T.a_law_draw T.fd_law_draw ["well", "many"] sp_law_draw := ok_law_draw T
  have G_law_one_of : FnOk P w K mg base CX0 2 T.a_law_one_of T.fd_law_one_of ["well", "letters"] sp_law_one_of := ok_law_one_of T
  have G_law_item : FnOk P w K mg base CX0 4 T.a_law_item T.fd_law_item ["well", "letters"] sp_item := ok_law_item T
  refine T.F_law_pattern.ok sc_law_pattern (fun vs H Q E h => ?_) (fun cdv A outer s H vs Q E hr h => ?_)
  · obtain ⟨r, z, rfl, _⟩ := h
    rfl
  · obtain ⟨r, z, rfl, hR, hz, q⟩ := h
    refine ⟨_, (pss_cons (ps_set (i := 2) sc_law_pattern.nd rfl (Or.inl rfl) (pe_lst pa_nil))
      (pss_cons (ps_set (i := 3) sc_law_pattern.nd rfl (Or.inl rfl) pe_int)
      (pss_cons (ps_for PassesOwn.never rfl (pi_range1 (by rfl) T.m_range (pa_cons (pe_ix (ix_listK K rfl) (pe_lst (pa_cons pe_int (pa_cons pe_int (pa_cons pe_int (pa_cons pe_int (pa_cons pe_int pa_nil)))))) (pe_call G_law_draw (hr.mono (by decide)) (by rfl) T.g_law_draw T.F_law_draw.kp T.b_law_draw .nil pass0 (pa_cons (pv 0) (pa_cons pe_int pa_nil))) (fun _ _ => rfl)) pa_nil)) (pg_name (i := 4) sc_law_pattern.nd rfl (Or.inl rfl))
        (pss_cons (ps_set (i := 5) sc_law_pattern.nd rfl (Or.inl rfl) (pe_lst pa_nil))
          (pss_cons (ps_for PassesOwn.never rfl (pi_range1 (by rfl) T.m_range (pa_cons (pe_callB (call_min2 rfl) (by rfl) T.m_min (by decide +kernel) (pa_cons (pe_op op_sub (pv 3) pe_int) (pa_cons (pe_ix (ix_listK K rfl) (pe_lst (pa_cons pe_int (pa_cons pe_int (pa_cons pe_int (pa_cons (pe_call G_law_draw (hr.mono (by decide)) (by rfl) T.g_law_draw T.F_law_draw.kp T.b_law_draw .nil pass0 (pa_cons (pv 0) (pa_cons pe_int pa_nil))) pa_nil))))) (pe_call G_law_draw (hr.mono (by decide)) (by rfl) T.g_law_draw T.F_law_draw.kp T.b_law_draw .nil pass0 (pa_cons (pv 0) (pa_cons pe_int pa_nil))) (fun _ _ => rfl)) pa_nil))) pa_nil)) (pg_name (i := 6) sc_law_pattern.nd rfl (Or.inl rfl))
            (pss_one (ps_expr (pe_bmK K rfl PySem.F.plainAttrs_list PySem.F.slot_list_append PySem.F.type_list_append mt_append (pv 5) (pa_cons (pe_op op_add_str (pe_call G_law_item (hr.mono (by decide)) (by rfl) T.g_law_item T.F_law_item.kp T.b_law_item .nil pass0 (pa_cons (pv 0) (pa_cons (pv 1) pa_nil))) (pe_ix (ix_listK K rfl) (pe_lst (pa_cons pe_str (pa_cons pe_str (pa_cons pe_str (pa_cons pe_str pa_nil))))) (pe_call G_law_draw (hr.mono (by decide)) (by rfl) T.g_law_draw T.F_law_draw.kp T.b_law_draw .nil pass0 (pa_cons (pv 0) (pa_cons pe_int pa_nil))) (fun _ _ => rfl))) pa_nil)))))
          (pss_cons (ps_expr (pe_bmK K rfl PySem.F.plainAttrs_list PySem.F.slot_list_insert PySem.F.type_list_insert mt_insert (pv 5) (pa_cons (pe_call G_law_draw (hr.mono (by decide)) (by rfl) T.g_law_draw T.F_law_draw.kp T.b_law_draw .nil pass0 (pa_cons (pv 0) (pa_cons (pe_op op_add (pe_callB (call_lenK K rfl) (by rfl) T.m_len (by decide +kernel) (pa_cons (pv 5) pa_nil)) pe_int) pa_nil))) (pa_cons (pe_op op_add_str (pe_call G_law_item (hr.mono (by decide)) (by rfl) T.g_law_item T.F_law_item.kp T.b_law_item .nil pass0 (pa_cons (pv 0) (pa_cons (pv 1) pa_nil))) (pe_ix (ix_listK K rfl) (pe_lst (pa_cons pe_str (pa_cons pe_str pa_nil))) (pe_call G_law_draw (hr.mono (by decide)) (by rfl) T.g_law_draw T.F_law_draw.kp T.b_law_draw .nil pass0 (pa_cons (pv 0) (pa_cons pe_int pa_nil))) (fun _ _ => rfl))) pa_nil))))
          (C8.pss_cut (ps_if (pt_cmpR op_gt (pv 3) pe_int (nomark _))
            (pss_one (ps_expr (pe_bmK K rfl PySem.F.plainAttrs_list PySem.F.slot_list_append PySem.F.type_list_append mt_append (pv 2) (pa_cons (pe_m1 PySem.F.slot_str_join PySem.F.type_str_join (mt_joinK K rfl) pe_str (pv 5)) pa_nil))))
            pss_nil)
          (pss_one (ps_set (i := 3) sc_law_pattern.nd rfl (Or.inl rfl) (pe_op op_sub (pv 3) (pe_callB (call_lenK K rfl) (by rfl) T.m_len (by decide +kernel) (pa_cons (pv 5) pa_nil))))))))))
      (pss_cons (ps_set (i := 7) sc_law_pattern.nd rfl (Or.inl rfl) (pe_m1 PySem.F.slot_str_join PySem.F.type_str_join (mt_joinK K rfl) pe_str (pv 2)))
      (pss_cons (ps_if (pt_cmpR op_gt (pe_callB call_len_str (by rfl) T.m_len (by decide +kernel) (pa_cons (pv 7) pa_nil)) pe_int (nomark _))
        (pss_one (ps_ret (pe_call G_law_one_of (hr.mono (by decide)) (by rfl) T.g_law_one_of T.F_law_one_of.kp T.b_law_one_of .nil pass0 (pa_cons (pv 0) (pa_cons (pv 1) pa_nil)))))
        pss_nil)
      (pss_one (ps_ret (pv 7)))))))), ?_⟩
    have h1 := hz.one
    have h5 := hz.five
    refine ⟨by show 0 ≤ sizeLine; decide, fun lb nb => ?_⟩
    have rb : lb ≠ r := (hR.ne nb).symm
    refine ⟨by show 5 ≤ sizeLine; decide, fun p n => ?_⟩
    have R0 := (hR.new (o := .lst []) nb).new (o := .lst [.int 1, .int 1, .int 2, .int 3, .int 8]) n
    refine ⟨.ref r, rfl, r, 5, rfl, R0, by decide, by decide, fun H1 g o1 R1 g0 g1 => ?_⟩
    obtain ⟨m, em, m0, m8⟩ := five_at g0 g1
    have ep := o1 _ _ ((hR.new (o := .lst []) nb).ne n).symm upd_same
    refine ⟨p, _, g, .int m, rfl, rfl, .inl (.inl ep), em, m, rfl, by omega, by omega, ?_⟩
    have off1 : Off r H H1 := ((Off.new nb).trans (Off.new n)).trans o1
    have eb1 : H1 lb = some (.lst (vJ [])) := o1 _ _ rb ((same_new n) _ _ upd_same)
    refine for_it (walk_range (lo := 0) (n := m.toNat)) (fun k σ H' => Off r H H' ∧ RowAt H' r ∧ ∃ (bs : List (List Itm × List Nat)) (lf : Int) (y4 y5 y6 : Option V), H' lb = some (.lst (vJ (bs.map Prod.snd))) ∧ bs.length ≤ k ∧ BsY z.cps.toList bs ∧ ((manyI (bs.map Prod.fst) : Nat) : Int) ≤ 8 - lf ∧ manyI (bs.map Prod.fst) ≤ 8 ∧ (0 < k → bs ≠ []) ∧ (bs = [] → lf = 8) ∧ lf ≤ 8 ∧ 8 - 8 * (k : Int) ≤ lf ∧ σ = [some (.ref r), some (.str z), some (.ref lb), some (.int lf), y4, y5, y6, none]) ⟨off1, R1, [], 8, none, none, none, eb1, Nat.le_refl _, (fun y h => by cases h), by decide, by decide, (fun h => absurd h (by decide)), (fun _ => rfl), by decide, by decide, rfl⟩ (fun _ _ _ _ _ => trivial) (fun k v σ H2 H2' hk hW hY => ?_) (fun σ H2 hW => ?_)
    · obtain ⟨o2, R2, bs, lf, y4, y5, y6, eb2, bl, bsm, mi1, mi2, kne, bne, lf8, lfk, rfl⟩ := hW
      obtain ⟨rfl, rfl⟩ := hY
      have hk8 : k < 8 := by omega
      refine ⟨by show 0 ≤ sizeLine; decide, fun li ni => ?_⟩
      have ri : li ≠ r := (R2.ne ni).symm
      have bi : lb ≠ li := ne_of_none eb2 ni
      have fi : H li = none := o2.free ri.symm ni
      have R3 := R2.new (o := .lst []) ni
      have o3 : Off r H (upd H2' li (.lst [])) := o2.trans (Off.new ni)
      have eb3 : (upd H2' li (.lst [])) lb = some (.lst (vJ (bs.map Prod.snd))) := (same_new ni) _ _ eb2
      have ei3 : (upd H2' li (.lst [])) li = some (.lst (vJ [])) := upd_same
      generalize upd H2' li (.lst []) = H3 at R3 o3 eb3 ei3
      refine ⟨.int lf, rfl, _, _, rfl, rfl, .ref r, rfl, r, 8, rfl, R3, by decide, by decide, fun H4 g4 o4 R4 a0 a1 => ?_⟩
      refine ⟨by show 4 ≤ sizeLine; decide, fun p5 n5 => ?_⟩
      refine ⟨.ref r, rfl, r, 4, rfl, R4.new n5, by decide, by decide, fun H6 g6 o6 R6 b0 b1 => ?_⟩
      obtain ⟨v, ev, v0, v7⟩ := four_at b0 b1 a0 a1
      refine ⟨p5, _, g6, .int v, rfl, rfl, .inl (.inl (o6 _ _ (R4.ne n5).symm upd_same)), ev, _, _, rfl, ?_⟩
      have o36 : Off r H3 H6 := o4.trans ((Off.new n5).trans o6)
      have eb6 := o36 _ _ rb eb3
      have ei6 := o36 _ _ ri ei3
      have off6 := o3.trans o36
      generalize hmn : (if v < lf - 1 then v else lf - 1) = mn
      have mn1 : mn ≤ 7 := by rw [← hmn]; split <;> omega
      have mn2 : -100 ≤ mn := by rw [← hmn]; split <;> omega
      refine ⟨mn, rfl, by omega, by omega, ?_⟩
      refine for_it (walk_range (lo := 0) (n := mn.toNat)) (fun j σ H' => Off r H H' ∧ RowAt H' r ∧ ∃ (is : List (Itm × List Nat)) (y6 : Option V), H' lb = some (.lst (vJ (bs.map Prod.snd))) ∧ H' li = some (.lst (vJ (is.map Prod.snd))) ∧ is.length = j ∧ PrT z.cps.toList is ∧ σ = [some (.ref r), some (.str z), some (.ref lb), some (.int lf), some (.int ((0 : Int) + (k : Nat))), some (.ref li), y6, none]) ⟨off6, R6, [], _, eb6, ei6, rfl, (fun y h => by cases h), rfl⟩ (fun _ _ _ _ _ => trivial) (fun j u σ H7 H7' hj hW hY => ?_) (fun σ H7 hW => ?_)
      · obtain ⟨o7, R7, is, y6, eb7, ei7, il, ism, rfl⟩ := hW
        obtain ⟨rfl, rfl⟩ := hY
        refine ⟨.ref li, rfl, .inl ⟨rfl, _, .inl (.inl ei7)⟩, .ref r, rfl, .str z, rfl, r, z, rfl, R7, hz, fun H8 y o8 R8 sy => ?_⟩
        refine ⟨by show 4 ≤ sizeLine; decide, fun p9 n9 => ?_⟩
        refine ⟨.ref r, rfl, r, 4, rfl, R8.new n9, by decide, by decide, fun H10 g10 o10 R10 c0 c1 => ?_⟩
        obtain ⟨t, mm, et, mm2, rfl⟩ := mark_atY c0 c1
        obtain ⟨hs, hh, hd, rfl, hh7⟩ := sy
        have ml := mkI_lenY mm
        have itOk : ItT z.cps.toList ⟨hs, mm⟩ (hh ++ mkI mm) ∧ (hh ++ mkI mm).length ≤ 8 := ⟨⟨mm2, hh, hd, rfl⟩, by rw [List.length_append]; omega⟩
        have eyt : tJ hh ++ tJ (mkI mm) = tJ (hh ++ mkI mm) := tJ_app _ _
        have o710 : Off r H7' H10 := o8.trans ((Off.new n9).trans o10)
        refine ⟨p9, _, g10, .str (tJ (mkI mm)), rfl, rfl, .inl (.inl (o10 _ _ (R8.ne n9).symm upd_same)), et, _, _, rfl, rfl, fit2 (by rw [tJ_len, tJ_len]; omega), ?_⟩
        rw [eyt]
        refine ⟨li, _, .str (tJ (hh ++ mkI mm)), rfl, rfl, o710 _ _ ri ei7, ?_, (o7.trans o710).mut fi, R10.upd ri.symm, is ++ [(⟨hs, mm⟩, hh ++ mkI mm)], _, ?_, ?_, ?_, PrT.snoc ism itOk, rfl⟩
        · rw [vJ_len, List.length_map]
          exact fit6 (by omega)
        · rw [upd_ne bi]
          exact o710 _ _ rb eb7
        · rw [upd_same, List.map_append]
          exact congrArg (fun l => some (HO.lst l)) (vJ_snoc _ _)
        · rw [List.length_append, il]
          rfl
      · obtain ⟨o7, R7, is, y6, eb7, ei7, il, ism, rfl⟩ := hW
        have il7 : is.length ≤ 7 := by omega
        have vl : (vJ (is.map Prod.snd)).length = is.length := by rw [vJ_len, List.length_map]
        refine ⟨.ref li, rfl, .inl ⟨rfl, _, .inl (.inl ei7)⟩, .ref r, rfl, .ref li, rfl, li, _, rfl, .inl (.inl (.inl ei7)), _, _, rfl, rfl, r, _, rfl, R7, ?_, ?_, fun H8 g8 o8 R8 d0 d1 => ?_⟩
        · rw [vl]
          omega
        · rw [vl]
          omega
        rw [vl] at d1
        refine ⟨.ref r, rfl, .str z, rfl, r, z, rfl, R8, hz, fun H9 y o9 R9 sy => ?_⟩
        refine ⟨by show 2 ≤ sizeLine; decide, fun p10 n10 => ?_⟩
        refine ⟨.ref r, rfl, r, 2, rfl, R9.new n10, by decide, by decide, fun H11 g11 o11 R11 c0 c1 => ?_⟩
        obtain ⟨t, mm, et, mm2, mm1, rfl⟩ := plus_atY c0 c1
        obtain ⟨hs, hh, hd, rfl, hh7⟩ := sy
        have ml := mkI_lenY mm
        have itOk : ItT z.cps.toList ⟨hs, mm⟩ (hh ++ mkI mm) ∧ (hh ++ mkI mm).length ≤ 8 := ⟨⟨mm2, hh, hd, rfl⟩, by rw [List.length_append]; omega⟩
        have eyt : tJ hh ++ tJ (mkI mm) = tJ (hh ++ mkI mm) := tJ_app _ _
        have o711 : Off r H7 H11 := (o8.trans o9).trans ((Off.new n10).trans o11)
        refine ⟨p10, _, g11, .str (tJ (mkI mm)), rfl, rfl, .inl (.inl (o11 _ _ (R9.ne n10).symm upd_same)), et, _, _, rfl, rfl, fit2 (by rw [tJ_len, tJ_len]; omega), ?_⟩
        rw [eyt]
        refine ⟨li, _, g8, .str (tJ (hh ++ mkI mm)), rfl, rfl, o711 _ _ ri ei7, ?_, d0, by omega, ?_⟩
        · rw [vl]
          exact fit6 (by omega)
        have ee : (vJ (is.map Prod.snd)).take g8.toNat ++ [V.str (tJ (hh ++ mkI mm))] ++ (vJ (is.map Prod.snd)).drop g8.toNat = vJ ((is.take g8.toNat ++ [((⟨hs, mm⟩ : Itm), hh ++ mkI mm)] ++ is.drop g8.toNat).map Prod.snd) := by
          show ((((is.map Prod.snd).map tJ).map V.str).take _ ++ _ ++ (((is.map Prod.snd).map tJ).map V.str).drop _) = (((_ : List (Itm × List Nat)).map Prod.snd).map tJ).map V.str
          simp only [List.map_append, List.map_take, List.map_drop, List.map_cons, List.map_nil]
        rw [ee]
        have sm12 := PrT.ins (k := g8.toNat) (p := ((⟨hs, mm⟩ : Itm), hh ++ mkI mm)) ism itOk
        have l12 : (is.take g8.toNat ++ [((⟨hs, mm⟩ : Itm), hh ++ mkI mm)] ++ is.drop g8.toNat).length = is.length + 1 := by
          rw [List.length_append, List.length_append, List.length_take, List.length_drop]
          show min g8.toNat is.length + 1 + _ = _
          omega
        have std : ∃ i ∈ (is.take g8.toNat ++ [((⟨hs, mm⟩ : Itm), hh ++ mkI mm)] ++ is.drop g8.toNat).map Prod.fst, i.m ≠ 1 := ⟨⟨hs, mm⟩, List.mem_map.mpr ⟨_, List.mem_append_left _ (List.mem_append_right _ (List.mem_singleton.mpr rfl)), rfl⟩, mm1⟩
        generalize is.take g8.toNat ++ [((⟨hs, mm⟩ : Itm), hh ++ mkI mm)] ++ is.drop g8.toNat = it at sm12 l12 std
        have vl2 : (vJ (it.map Prod.snd)).length = it.length := by rw [vJ_len, List.length_map]
        have o12 : Off r H (upd H11 li (.lst (vJ (it.map Prod.snd)))) := (o7.trans o711).mut fi
        have R12 := R11.upd (o := .lst (vJ (it.map Prod.snd))) ri.symm
        have eb12 : (upd H11 li (.lst (vJ (it.map Prod.snd)))) lb = some (.lst (vJ (bs.map Prod.snd))) := by
          rw [upd_ne bi]
          exact o711 _ _ rb eb7
        have ei12 : (upd H11 li (.lst (vJ (it.map Prod.snd)))) li = some (.lst (vJ (it.map Prod.snd))) := upd_same
        generalize upd H11 li (.lst (vJ (it.map Prod.snd))) = H12 at o12 R12 eb12 ei12
        have lmn : (it.length : Int) ≤ (if mn ≤ 0 then 0 else mn) + 1 := by split <;> omega
        have mnl : mn ≤ lf - 1 := by rw [← hmn]; split <;> omega
        refine ⟨fun σ H' => Off r H H' ∧ RowAt H' r ∧ H' li = some (.lst (vJ (it.map Prod.snd))) ∧ ∃ (bs2 : List (List Itm × List Nat)) (y6 : Option V), H' lb = some (.lst (vJ (bs2.map Prod.snd))) ∧ bs2.length ≤ k + 1 ∧ BsY z.cps.toList bs2 ∧ ((manyI (bs2.map Prod.fst) : Nat) : Int) ≤ 8 - (lf - (it.length : Int)) ∧ manyI (bs2.map Prod.fst) ≤ 8 ∧ bs2 ≠ [] ∧ σ = [some (.ref r), some (.str z), some (.ref lb), some (.int lf), some (.int ((0 : Int) + (k : Nat))), some (.ref li), y6, none], ?_, ?_⟩
        · refine ⟨.int lf, rfl, _, _, rfl, rfl, _, rfl, ite2 (fun e => ?_) (fun e => ?_)⟩
          · have e : (0 : Int) < lf := of_decide_eq_true e
            have eJ : Txt.join ⟨#[]⟩ ((it.map Prod.snd).map tJ) = tJ (it.map Prod.snd).flatten := join_flat _
            have fl8 : (it.map Prod.snd).flatten.length ≤ 64 := by
              have := flat_len (ts := it.map Prod.snd) (n := 8) fun t ht => by
                obtain ⟨q, hq, rfl⟩ := List.mem_map.mp ht
                exact (sm12 q hq).2
              rw [List.length_map] at this
              omega
            refine ⟨.ref lb, rfl, .inl ⟨rfl, _, .inl (.inl eb12)⟩, ⟨_, rfl⟩, .ref li, rfl, ⟨#[]⟩, li, (it.map Prod.snd).map tJ, rfl, rfl, .inl (.inl (.inl ei12)), ?_, ?_⟩
            · have := sum_le (l := ((it.map Prod.snd).map tJ).map (·.length)) (n := 8) fun x hx => by
                obtain ⟨y, hy, rfl⟩ := List.mem_map.mp hx
                obtain ⟨u, hu, rfl⟩ := List.mem_map.mp hy
                obtain ⟨q, hq, rfl⟩ := List.mem_map.mp hu
                show (tJ q.2).length ≤ 8
                rw [tJ_len]
                exact (sm12 q hq).2
              rw [List.length_map, List.length_map, List.length_map] at this
              show _ + _ * 0 ≤ 16777216
              omega
            rw [eJ]
            have bOk : (it.map Prod.fst) ≠ [] ∧ BrT z.cps.toList (it.map Prod.fst) (it.map Prod.snd).flatten ∧ (it.map Prod.snd).flatten.length ≤ 64 ∧ ∃ i ∈ it.map Prod.fst, i.m ≠ 1 := ⟨fun h => by
              have := congrArg List.length h
              rw [List.length_map] at this
              have : it.length = 0 := this
              omega, PrT.br sm12, fl8, std⟩
            refine ⟨lb, _, .str (tJ (it.map Prod.snd).flatten), rfl, rfl, eb12, ?_, o12.mut nb, R12.upd rb.symm, ?_, bs ++ [(it.map Prod.fst, (it.map Prod.snd).flatten)], _, ?_, ?_, BsY.snoc bsm bOk, ?_, ?_, by simp, rfl⟩
            · rw [vJ_len, List.length_map]
              exact fit6 (by omega)
            · rw [upd_ne bi.symm]
              exact ei12
            · rw [upd_same, List.map_append]
              exact congrArg (fun l => some (HO.lst l)) (vJ_snoc _ _)
            · rw [List.length_append]
              show bs.length + 1 ≤ k + 1
              omega
            · rw [many_snocY]
              show ((manyI (bs.map Prod.fst) + (it.map Prod.fst).length : Nat) : Int) ≤ _
              rw [List.length_map]
              omega
            · rw [many_snocY]
              show manyI (bs.map Prod.fst) + (it.map Prod.fst).length ≤ 8
              rw [List.length_map]
              split at lmn <;> omega
          · have e : ¬ (0 : Int) < lf := fun h => e (decide_eq_true h)
            have bne' : bs ≠ [] := fun h => by
              have := bne h
              omega
            exact ⟨o12, R12, ei12, bs, _, eb12, by omega, bsm, by omega, mi2, bne', rfl⟩
        · rintro σ H13 ⟨o13, R13, ei13, bs2, y6', eb13, bl2, bsm2, m21, m22, bne2, rfl⟩
          refine ⟨.int lf, rfl, .ref li, rfl, li, _, rfl, .inl (.inl (.inl ei13)), _, _, rfl, rfl, o13, R13, bs2, lf - ((vJ (it.map Prod.snd)).length : Int), _, _, _, eb13, bl2, bsm2, ?_, m22, fun _ => bne2, fun h => absurd h bne2, ?_, ?_, rfl⟩
          · rw [vl2]
            exact m21
          · rw [vl2]
            omega
          · rw [vl2]
            omega
    · obtain ⟨o2, R2, bs, lf, y4, y5, y6, eb2, bl, bsm, mi1, mi2, kne, bne, lf8, lfk, rfl⟩ := hW
      have bl8 : bs.length ≤ 8 := by omega
      have bs0 : bs ≠ [] := kne (by omega)
      have bar : (Str.ofString "|" : Str) = tJ [124] := by decide +kernel
      have good := goodP_of bsm bs0 mi2
      have ssum : (((bs.map Prod.snd).map tJ).map (·.length)).sum ≤ 8 * 64 := by
        have := sum_le (l := ((bs.map Prod.snd).map tJ).map (·.length)) (n := 64) fun x hx => by
          obtain ⟨y, hy, rfl⟩ := List.mem_map.mp hx
          obtain ⟨u, hu, rfl⟩ := List.mem_map.mp hy
          obtain ⟨q, hq, rfl⟩ := List.mem_map.mp hu
          show (tJ q.2).length ≤ 64
          rw [tJ_len]
          exact (bsm q hq).2.2.1
        rw [List.length_map, List.length_map, List.length_map] at this
        omega
      refine ⟨⟨_, rfl⟩, .ref lb, rfl, Str.ofString "|", lb, (bs.map Prod.snd).map tJ, rfl, rfl, .inl (.inl (.inl eb2)), ?_, ?_⟩
      · rw [bar, tJ_len, List.length_map, List.length_map]
        show _ + bs.length * 1 ≤ _
        omega
      rw [bar]
      have jl : (Txt.join (tJ [124]) ((bs.map Prod.snd).map tJ)).length ≤ 1000 := by
        have := join_lenY (tJ [124]) (parts := (bs.map Prod.snd).map tJ)
        have e1 : (tJ [124]).length = 1 := rfl
        rw [e1, List.length_map, List.length_map] at this
        omega
      generalize Txt.join (tJ [124]) ((bs.map Prod.snd).map tJ) = text at good jl
      refine ⟨.str text, rfl, text, rfl, Nat.le_trans jl (by decide), _, _, rfl, rfl, _, rfl, ite2 (fun e => ?_) (fun e => ?_)⟩
      · refine ⟨.ref r, rfl, .str z, rfl, r, z, rfl, R2, h1, by omega, fun H3 c o3 R3 hc => ?_⟩
        exact q _ _ (o2.trans o3) R3 (goodP_one hc) (by show 1 ≤ 30; decide)
      · refine ⟨_, rfl, q _ _ o2 R2 good ?_⟩
        have := of_decide_eq_false (Bool.eq_false_iff.mpr e)
        omega
end
end LH

namespace LH
open PySem PySem.Spec PyProof.Rows L2 NdefX LamX LU
def RulsAt (H : Hp) (ps : List Addr) (rs : List Rul) : Prop := ps.length = rs.length ∧ ∀ (i : Nat) (p : Addr) (R : Rul), ps[i]? = some p → rs[i]? = some R → RulAt H p R
theorem RulsAt.mono {H H' : Hp} {ps : List Addr} {rs : List Rul} (t : Tups H H') (h : RulsAt H ps rs) : RulsAt H' ps rs := ⟨h.1, fun i p R x y => (h.2 i p R x y).mono t⟩
theorem RulsAt.snoc {H : Hp} {ps : List Addr} {rs : List Rul} {p : Addr} {R : Rul} (h : RulsAt H ps rs) (hp : RulAt H p R) : RulsAt H (ps ++ [p]) (rs ++ [R]) := by
  refine ⟨by rw [List.length_append, List.length_append, h.1]; rfl, fun i a b x y => ?_⟩
  by_cases hi : i < ps.length
  · rw [List.getElem?_append_left hi] at x
    rw [List.getElem?_append_left (by rw [← h.1]; exact hi)] at y
    exact h.2 i a b x y
  · rw [List.getElem?_append_right (by omega)] at x
    rw [List.getElem?_append_right (by rw [← h.1]; omega), ← h.1] at y
    have h0 : i - ps.length = 0 := by
      have := (List.getElem?_eq_some_iff.mp x).1
      have e : ([p] : List Addr).length = 1 := rfl
      omega
    rw [h0] at x y
    cases x
    cases y
    exact hp
theorem RulsAt.cons {H : Hp} {ps : List Addr} {rs : List Rul} {p : Addr} {R : Rul} (hp : RulAt H p R) (h : RulsAt H ps rs) : RulsAt H (p :: ps) (R :: rs) := by
  refine ⟨by rw [List.length_cons, List.length_cons, h.1], fun i a b x y => ?_⟩
  cases i with
  | zero =>
    cases x
    cases y
    exact hp
  | succ i => exact h.2 i a b x y
theorem RulsAt.nil {H : Hp} : RulsAt H [] [] := ⟨rfl, fun i p R x => by simp at x⟩
theorem six_at {g v : Int} (h0 : 0 ≤ g) (h1 : g < 6) (v0 : 0 ≤ v) (v1 : v < 9) : ∃ m : Int, atI [V.int 0, V.int 1, V.int 2, V.int 3, V.int 8, V.int v] g = some (.int m) ∧ 0 ≤ m ∧ m ≤ 8 := by
  have : g = 0 ∨ g = 1 ∨ g = 2 ∨ g = 3 ∨ g = 4 ∨ g = 5 := by omega
  rcases this with rfl | rfl | rfl | rfl | rfl | rfl
  · exact ⟨0, rfl, by decide, by decide⟩
  · exact ⟨1, rfl, by decide, by decide⟩
  · exact ⟨2, rfl, by decide, by decide⟩
  · exact ⟨3, rfl, by decide, by decide⟩
  · exact ⟨8, rfl, by decide, by decide⟩
  · exact ⟨v, rfl, v0, by omega⟩
/-- a world of few rules and short patterns -/
structure Wd.Lit (W : Wd) : Prop where
  many : W.rs.length ≤ 8
  b : W.b.length ≤ 30
  d : W.d.length ≤ 30
section
variable {P : Program} {w : World} {K : PySem.W.Frag} {mg : Str → Option Value} {base : Heap}
def sp_law_world : Sp := fun vs H Q _ => ∃ r : Addr, vs = [.ref r] ∧ RowAt H r ∧ ∀ H' a W, Off r H H' → RowAt H' r → WdAt H' a W → W.Ok → W.Lit → Q (.ref a) H'
theorem ok_law_world (T : TX K mg) : FnOk P w K mg base CX0 6 T.a_law_world T.fd_law_world ["well"] sp_law_world := by
  have G_law_draw : FnOk P w K mg base CX0 1 T.a_law_draw T.fd_law_draw ["well", "many"] sp_law_draw := ok_law_draw T
  have G_law_letters : FnOk P w K mg base CX0 2 T.a_law_letters T.fd_law_letters ["well"] sp_law_letters := ok_law_letters T
  have G_law_rule : FnOk P w K mg base CX0 4 T.a_law_rule T.fd_law_rule ["well", "letters", "shape", "kind"] sp_law_rule := ok_law_rule T
  have G_law_pattern : FnOk P w K mg base CX0 5 T.a_law_pattern T.fd_law_pattern ["well", "letters"] sp_pat := ok_law_pattern T
  refine T.F_law_world.ok sc_law_world (fun vs H Q E h => ?_) (fun cdv A outer s H vs Q E hr h => ?_)
  · obtain ⟨r, rfl, _⟩ := h
    rfl
  · obtain ⟨r, rfl, hR, q⟩ := h
    refine ⟨_, (pss_cons (ps_set (i := 1) sc_law_world.nd rfl (Or.inr rfl) (pe_call G_law_letters (hr.mono (by decide)) (by rfl) T.g_law_letters T.F_law_letters.kp T.b_law_letters .nil pass0 (pa_cons (pv 0) pa_nil)))
      (pss_cons (ps_set (i := 2) sc_law_world.nd rfl (Or.inr rfl) (pe_ix (ix_listK K rfl) (pe_lst (pa_cons pe_str (pa_cons pe_str pa_nil))) (pe_call G_law_draw (hr.mono (by decide)) (by rfl) T.g_law_draw T.F_law_draw.kp T.b_law_draw .nil pass0 (pa_cons (pv 0) (pa_cons pe_int pa_nil))) (fun _ _ => rfl)))
      (pss_cons (ps_set (i := 3) sc_law_world.nd rfl (Or.inl rfl) (pe_ix (ix_listK K rfl) (pe_lst (pa_cons pe_int (pa_cons pe_int (pa_cons pe_int (pa_cons pe_int (pa_cons pe_int (pa_cons (pe_call G_law_draw (hr.mono (by decide)) (by rfl) T.g_law_draw T.F_law_draw.kp T.b_law_draw .nil pass0 (pa_cons (pv 0) (pa_cons pe_int pa_nil))) pa_nil))))))) (pe_call G_law_draw (hr.mono (by decide)) (by rfl) T.g_law_draw T.F_law_draw.kp T.b_law_draw .nil pass0 (pa_cons (pv 0) (pa_cons pe_int pa_nil))) (fun _ _ => rfl)))
      (pss_cons (ps_set (i := 4) sc_law_world.nd rfl (Or.inl rfl) (pe_callTy (call_tupleK K rfl) (by rfl) T.m_tuple (by decide +kernel) (pa_cons (pe_lc (own := [("k", 5)]) (g := gName 5) (tt := tYes) (by rfl) sc_law_world.nd (pi_range1 (by rfl) T.m_range (pa_cons (pv 3) pa_nil)) (blkOk_by (own := [("k", 5)]) (N := N_law_world) (by kernel_rfl)) (fun _ _ _ _ _ => (pg_name (i := 5) sc_law_world.nd rfl (by first | exact Or.inl rfl | exact Or.inr rfl))) (fun _ _ _ _ _ => pts_nil) (fun _ _ _ _ _ => (pe_call G_law_rule (hr.mono (by decide)) (by rfl) T.g_law_rule T.F_law_rule.kp T.b_law_rule .nil pass0 (pa_cons (pv 0) (pa_cons (pv 1) (pa_cons (pv 2) (pa_cons (pe_call G_law_draw (hr.mono (by decide)) (by rfl) T.g_law_draw T.F_law_draw.kp T.b_law_draw .nil pass0 (pa_cons (pv 0) (pa_cons pe_int pa_nil))) pa_nil))))))) pa_nil)))
      (pss_one (ps_ret (pe_tup (pa_cons (pv 1) (pa_cons (pv 2) (pa_cons (pv 4) (pa_cons (pe_call G_law_pattern (hr.mono (by decide)) (by rfl) T.g_law_pattern T.F_law_pattern.kp T.b_law_pattern .nil pass0 (pa_cons (pv 0) (pa_cons (pv 1) pa_nil))) (pa_cons (pe_call G_law_pattern (hr.mono (by decide)) (by rfl) T.g_law_pattern T.F_law_pattern.kp T.b_law_pattern .nil pass0 (pa_cons (pv 0) (pa_cons (pv 1) pa_nil))) pa_nil)))))))))))), ?_⟩
    refine ⟨.ref r, rfl, r, rfl, hR, fun H1 z o1 R1 hz => ?_⟩
    refine ⟨by show 2 ≤ sizeLine; decide, fun p2 n2 => ?_⟩
    refine ⟨.ref r, rfl, r, 2, rfl, R1.new n2, by decide, by decide, fun H3 g o3 R3 g0 g1 => ?_⟩
    obtain ⟨sh, esh, hsh⟩ := two_at (a := "row") (b := "ring") g0 g1
    refine ⟨p2, _, g, .str sh, rfl, rfl, .inl (.inl (o3 _ _ (R1.ne n2).symm upd_same)), esh, ?_⟩
    refine ⟨.ref r, rfl, r, 9, rfl, R3, by decide, by decide, fun H4 g4 o4 R4 a0 a1 => ?_⟩
    refine ⟨by show 6 ≤ sizeLine; decide, fun p5 n5 => ?_⟩
    refine ⟨.ref r, rfl, r, 6, rfl, R4.new n5, by decide, by decide, fun H6 g6 o6 R6 b0 b1 => ?_⟩
    obtain ⟨m, em, m0, m8⟩ := six_at b0 b1 a0 a1
    refine ⟨p5, _, g6, .int m, rfl, rfl, .inl (.inl (o6 _ _ (R4.ne n5).symm upd_same)), em, ?_⟩
    have off6 : Off r H H6 := (o1.trans ((Off.new n2).trans o3)).trans (o4.trans ((Off.new n5).trans o6))
    refine ⟨.int m, rfl, m, rfl, by omega, by omega, fun D nD => ?_⟩
    have rD : r ≠ D := R6.ne nD
    have fD : H D = none := off6.free rD nD
    refine lc_it (walk_range (lo := 0) (n := m.toNat)) (fun i H' => Off r H H' ∧ RowAt H' r ∧ ∃ ps rs, H' D = some (.lst (vr ps)) ∧ ps.length = i ∧ RulsAt H' ps rs ∧ ∀ R ∈ rs, R.Ok z sh) ⟨off6.trans (Off.new nD), R6.new nD, [], [], upd_same, rfl, RulsAt.nil, fun R h => by cases h⟩ (fun _ _ _ _ => trivial) (fun i v H7 H7' hi hW hY => ?_) (fun H7 hW => ?_)
    · obtain ⟨o7, R7, ps, rs, e7, l7, ru, rok⟩ := hW
      obtain ⟨rfl, rfl⟩ := hY
      refine ⟨rfl, lcyes ?_⟩
      refine ⟨.ref r, rfl, .str z, rfl, .str sh, rfl, .ref r, rfl, r, 4, rfl, R7, by decide, by decide, fun H8 kd o8 R8 k0 k1 => ?_⟩
      refine ⟨r, z, sh, kd, rfl, R8, hz, fun H9 p9 R o9 R9 hp ok9 _ => ?_⟩
      have e9 := o9 _ _ rD.symm (o8 _ _ rD.symm e7)
      have tp : Tups H7' (upd H9 D (.lst (vr ps ++ [V.ref p9]))) := (Tups.off R7 (o8.trans o9)).trans (Tups.lst e9)
      refine ⟨_, e9, ?_, ((o7.trans o8).trans o9).mut fD, R9.upd rD, ps ++ [p9], rs ++ [R], ?_, ?_, (ru.mono tp).snoc (hp.mono (Tups.lst e9)), mem_snoc rok ok9⟩
      · rw [List.length_map]
        exact small1000 (by omega)
      · rw [upd_same, vr_snoc]
      · rw [List.length_append, l7]
        rfl
    · obtain ⟨o7, R7, ps, rs, e7, l7, ru, rok⟩ := hW
      refine ⟨D, vr ps, rfl, .inl ⟨.inl (.inl e7), fun l nl => ?_⟩⟩
      have R8 := R7.new (o := .tup (vr ps)) nl
      have t8 : Tups H7 (upd H7 l (.tup (vr ps))) := Tups.new nl
      have o8 : Off r H (upd H7 l (.tup (vr ps))) := o7.trans (Off.new nl)
      have e8 : (upd H7 l (.tup (vr ps))) l = some (.tup (vr ps)) := upd_same
      generalize upd H7 l (.tup (vr ps)) = H8 at R8 t8 o8 e8
      refine ⟨.str z, rfl, .str sh, rfl, .ref l, rfl, .ref r, rfl, .str z, rfl, r, z, rfl, R8, hz, fun H9 b o9 R9 gb lb => ?_⟩
      refine ⟨.ref r, rfl, .str z, rfl, r, z, rfl, R9, hz, fun H10 d o10 R10 gd ld => ?_⟩
      refine ⟨by show 5 ≤ sizeLine; decide, fun a na => ?_⟩
      have t11 : Tups H8 (upd H10 a (.tup [.str z, .str sh, .ref l, .str b, .str d])) := ((Tups.off R8 o9).trans (Tups.off R9 o10)).trans (Tups.new na)
      refine q _ a ⟨z, sh, rs, b, d⟩ ((o8.trans (o9.trans o10)).trans (Off.new na)) (R10.new na) ⟨l, ps, upd_same, t11 _ _ e8, ru.1, (ru.mono (t8.trans t11)).2⟩ ⟨hz, hsh, rok, gb, gd⟩ ⟨?_, lb, ld⟩
      show rs.length ≤ 8
      rw [← ru.1, l7]
      omega
end
end LH

namespace LH
open PySem PySem.Spec PyProof.Rows L2 NdefX LamX LU
theorem walk_zipT {K : PySem.W.Frag} {a b : Addr} {xs ys : List V} {n : Nat} (hx : xs.length = n) (hy : ys.length = n) : Walk (RZ.ItzT K a b) n (fun H => SqT K H a xs ∧ SqT K H b ys) (YPair (fun i => xs[i]?) (fun i => ys[i]?)) := by
  refine ⟨fun i _ hi q => ?_, fun _ q => ⟨xs, ys, q.1, q.2, by omega⟩, fun i H v H' _ q y => ?_⟩
  · exact ⟨xs, ys, xs[i], ys[i], q.1, q.2, List.getElem?_eq_getElem (by omega), List.getElem?_eq_getElem (by omega)⟩
  · obtain ⟨T, x, z, h1, h2, h3, h4, h5⟩ := y
    exact ⟨T, x, z, h1, h2, h3, h4 xs q.1, h5 ys q.2⟩
/-- the same texts, None and tuples of these, to a depth -/
def SameV : Nat → Hp → V → V → Prop
  | 0, _, x, y => (∃ t : Str, x = .str t ∧ y = .str t) ∨ (x = .non ∧ y = .non)
  | d + 1, H, x, y => ((∃ t : Str, x = .str t ∧ y = .str t) ∨ (x = .non ∧ y = .non)) ∨ ∃ (a b : Addr) (xs ys : List V), x = .ref a ∧ y = .ref b ∧ H a = some (.tup xs) ∧ H b = some (.tup ys) ∧ xs.length = ys.length ∧ ∀ (i : Nat) (u v : V), xs[i]? = some u → ys[i]? = some v → SameV d H u v
theorem SameV.mono {H H' : Hp} (t : Tups H H') : ∀ {d : Nat} {x y : V}, SameV d H x y → SameV d H' x y
  | 0, _, _, h => h
  | d + 1, _, _, h => by
    rcases h with h | ⟨a, b, xs, ys, e1, e2, h1, h2, l, q⟩
    · exact .inl h
    · exact .inr ⟨a, b, xs, ys, e1, e2, t _ _ h1, t _ _ h2, l, fun i u v h1 h2 => (q i u v h1 h2).mono t⟩
theorem SameV.str {H : Hp} {t : Str} : ∀ {d : Nat}, SameV d H (.str t) (.str t)
  | 0 => .inl ⟨t, rfl, rfl⟩
  | _ + 1 => .inl (.inl ⟨t, rfl, rfl⟩)
theorem SameV.non {H : Hp} : ∀ {d : Nat}, SameV d H .non .non
  | 0 => .inr ⟨rfl, rfl⟩
  | _ + 1 => .inl (.inr ⟨rfl, rfl⟩)
theorem sameV_grd {H : Hp} {v u : V} {g : Option Grd} (h1 : GrdAt H v g) (h2 : GrdAt H u g) : SameV 1 H v u := by
  cases g with
  | none =>
    cases h1
    cases h2
    exact SameV.non
  | some G =>
    obtain ⟨a, rfl, ea⟩ := h1
    obtain ⟨b, rfl, eb⟩ := h2
    refine .inr ⟨a, b, _, _, rfl, rfl, ea, eb, rfl, fun i u v x y => ?_⟩
    rw [x] at y
    cases y
    match i, x with
    | 0, x => cases x; exact SameV.str
    | 1, x => cases x; exact SameV.str
    | 2, x => cases x; exact SameV.str
theorem sameV_rul {H : Hp} {a b : Addr} {R : Rul} (h1 : RulAt H a R) (h2 : RulAt H b R) : SameV 2 H (.ref a) (.ref b) := by
  cases R with
  | two x y u v =>
    refine .inr ⟨a, b, _, _, rfl, rfl, h1, h2, rfl, fun i u v x y => ?_⟩
    rw [x] at y
    cases y
    match i, x with
    | 0, x => cases x; exact SameV.str
    | 1, x => cases x; exact SameV.str
    | 2, x => cases x; exact SameV.str
    | 3, x => cases x; exact SameV.str
    | 4, x => cases x; exact SameV.str
  | call x y im =>
    refine .inr ⟨a, b, _, _, rfl, rfl, h1, h2, rfl, fun i u v x y => ?_⟩
    rw [x] at y
    cases y
    match i, x with
    | 0, x => cases x; exact SameV.str
    | 1, x => cases x; exact SameV.str
    | 2, x => cases x; exact SameV.str
    | 3, x => cases x; exact SameV.str
  | one x y g =>
    obtain ⟨v1, e1, g1⟩ := h1
    obtain ⟨v2, e2, g2⟩ := h2
    refine .inr ⟨a, b, _, _, rfl, rfl, e1, e2, rfl, fun i u v x y => ?_⟩
    match i, x, y with
    | 0, x, y => cases x; cases y; exact SameV.str
    | 1, x, y => cases x; cases y; exact SameV.str
    | 2, x, y => cases x; cases y; exact SameV.str
    | 3, x, y => cases x; cases y; exact sameV_grd g1 g2
theorem sameV_wd {H : Hp} {a b : Addr} {W : Wd} (h1 : WdAt H a W) (h2 : WdAt H b W) : SameV 4 H (.ref a) (.ref b) := by
  obtain ⟨r1, p1, e1, f1, l1, q1⟩ := h1
  obtain ⟨r2, p2, e2, f2, l2, q2⟩ := h2
  refine .inr ⟨a, b, _, _, rfl, rfl, e1, e2, rfl, fun i u v x y => ?_⟩
  match i, x, y with
  | 0, x, y => cases x; cases y; exact SameV.str
  | 1, x, y => cases x; cases y; exact SameV.str
  | 3, x, y => cases x; cases y; exact SameV.str
  | 4, x, y => cases x; cases y; exact SameV.str
  | 2, x, y =>
    cases x
    cases y
    refine .inr ⟨r1, r2, _, _, rfl, rfl, f1, f2, by rw [List.length_map, List.length_map, l1, l2], fun i u v x y => ?_⟩
    obtain ⟨a1, x1, rfl⟩ := ref_atN x
    obtain ⟨b1, y1, rfl⟩ := ref_atN y
    have hi := (List.getElem?_eq_some_iff.mp x1).1
    have hR := List.getElem?_eq_getElem (l := W.rs) (i := i) (by omega)
    exact sameV_rul (q1 i a1 _ x1 hR) (q2 i b1 _ y1 hR)
section
variable {P : Program} {w : World} {K : PySem.W.Frag} {mg : Str → Option Value} {base : Heap}
/-! ### _law_same -/
theorem ok_none {f : Addr} {fd : FuncData} {ps : List Str} : FnOk P w K mg base CX0 0 f fd ps (fun _ _ _ _ => False) := ⟨fun _ _ _ _ h => h.elim, fun _ _ _ _ _ _ _ _ _ _ _ _ _ h => h.elim⟩
def sp_same (d : Nat) : Sp := fun vs H Q _ => ∃ x y : V, vs = [x, y] ∧ SameV d H x y ∧ ∀ H', Same H H' → Q (.bl true) H'
def sp_same_in : Nat → Sp
  | 0 => fun _ _ _ _ => False
  | d + 1 => sp_same d
theorem ok_same_step (T : TX K mg) {d : Nat} (G_law_same : FnOk P w K mg base CX0 d T.a_law_same T.fd_law_same ["got", "due"] (sp_same_in d)) : FnOk P w K mg base CX0 (d + 1) T.a_law_same T.fd_law_same ["got", "due"] (sp_same d) := by
  refine T.F_law_same.ok sc_law_same (fun vs H Q E h => ?_) (fun cdv A outer s H vs Q E hr h => ?_)
  · obtain ⟨x, y, rfl, _⟩ := h
    rfl
  · obtain ⟨x, y, rfl, hxy, q⟩ := h
    refine ⟨_, (pss_cons (ps_if (pt_cmpR op_isN (pv 1) pe_non (nomark _))
        (pss_one (ps_ret (pe_cmpR op_isN (pv 0) pe_non (nomark _))))
        pss_nil)
      (pss_cons (ps_if (pt_val (pe_callB (call_isiK K rfl) (by rfl) T.m_isinstance (by decide +kernel) (pa_cons (pv 1) (pa_cons (pe_bltn (v := .ty "bool") (by rfl) T.m_bool (by decide +kernel) rfl) pa_nil))))
        (pss_one (ps_ret (pe_and (pe_callB (call_isiK K rfl) (by rfl) T.m_isinstance (by decide +kernel) (pa_cons (pv 0) (pa_cons (pe_bltn (v := .ty "bool") (by rfl) T.m_bool (by decide +kernel) rfl) pa_nil))) (pe_one (pe_cmpR op_eq (pv 0) (pv 1) (nomark _))))))
        pss_nil)
      (pss_cons (ps_if (pt_val (pe_callB (call_isiK K rfl) (by rfl) T.m_isinstance (by decide +kernel) (pa_cons (pv 1) (pa_cons (pe_bltn (v := .ty "int") (by rfl) T.m_int (by decide +kernel) rfl) pa_nil))))
        (pss_one (ps_ret (pe_and (pe_callB (call_isiK K rfl) (by rfl) T.m_isinstance (by decide +kernel) (pa_cons (pv 0) (pa_cons (pe_bltn (v := .ty "int") (by rfl) T.m_int (by decide +kernel) rfl) pa_nil))) (pe_and (pe_not (pe_callB (call_isiK K rfl) (by rfl) T.m_isinstance (by decide +kernel) (pa_cons (pv 0) (pa_cons (pe_bltn (v := .ty "bool") (by rfl) T.m_bool (by decide +kernel) rfl) pa_nil)))) (pe_one (pe_cmpR op_eq (pv 0) (pv 1) (nomark _)))))))
        pss_nil)
      (pss_cons (ps_if (pt_val (pe_callB (call_isiK K rfl) (by rfl) T.m_isinstance (by decide +kernel) (pa_cons (pv 1) (pa_cons (pe_bltn (v := .ty "str") (by rfl) T.m_str (by decide +kernel) rfl) pa_nil))))
        (pss_one (ps_ret (pe_and (pe_callB (call_isiK K rfl) (by rfl) T.m_isinstance (by decide +kernel) (pa_cons (pv 0) (pa_cons (pe_bltn (v := .ty "str") (by rfl) T.m_str (by decide +kernel) rfl) pa_nil))) (pe_one (pe_cmpR op_eq (pv 0) (pv 1) (nomark _))))))
        pss_nil)
      (pss_cons (ps_if (PW.pt (pw_and (pt_val (pe_callB (call_isiK K rfl) (by rfl) T.m_isinstance (by decide +kernel) (pa_cons (pv 1) (pa_cons (pe_bltn (v := .ty "tuple") (by rfl) T.m_tuple (by decide +kernel) rfl) pa_nil)))) (pw_and1 (pt_not (pt_val (pe_callB (call_isiK K rfl) (by rfl) T.m_isinstance (by decide +kernel) (pa_cons (pv 0) (pa_cons (pe_bltn (v := .ty "tuple") (by rfl) T.m_tuple (by decide +kernel) rfl) pa_nil))))))))
        (pss_one (ps_ret pe_bl))
        pss_nil)
      (pss_cons (ps_if (PW.pt (pw_and (pt_val (pe_callB (call_isiK K rfl) (by rfl) T.m_isinstance (by decide +kernel) (pa_cons (pv 1) (pa_cons (pe_bltn (v := .ty "list") (by rfl) T.m_list (by decide +kernel) rfl) pa_nil)))) (pw_and1 (pt_not (pt_val (pe_callB (call_isiK K rfl) (by rfl) T.m_isinstance (by decide +kernel) (pa_cons (pv 0) (pa_cons (pe_bltn (v := .ty "list") (by rfl) T.m_list (by decide +kernel) rfl) pa_nil))))))))
        (pss_one (ps_ret pe_bl))
        pss_nil)
      (pss_cons (ps_if (pt_cmpR op_ne (pe_callB (call_lenK K rfl) (by rfl) T.m_len (by decide +kernel) (pa_cons (pv 0) pa_nil)) (pe_callB (call_lenK K rfl) (by rfl) T.m_len (by decide +kernel) (pa_cons (pv 1) pa_nil)) (nomark _))
        (pss_one (ps_ret pe_bl))
        pss_nil)
      (pss_cons (ps_for PassesOwn.never rfl (RZ.pi_zipA (by rfl) T.m_zip (pa_cons (pv 0) (pa_cons (pv 1) pa_nil))) (pg_tupK (n := 2) K rfl (by rfl) (pgs_cons (pg_name (i := 2) sc_law_same.nd rfl (Or.inl rfl)) (pgs_cons (pg_name (i := 3) sc_law_same.nd rfl (Or.inl rfl)) pgs_nil)))
        (pss_one (ps_if (pt_not (pt_val (pe_call G_law_same (hr.mono (by first | decide | exact Nat.le_refl _)) (by rfl) T.g_law_same T.F_law_same.kp T.b_law_same .nil pass0 (pa_cons (pv 2) (pa_cons (pv 3) pa_nil)))))
            (pss_one (ps_ret pe_bl))
            pss_nil)))
      (pss_one (ps_ret pe_bl)))))))))), ?_⟩
    have flat : ((∃ t : Str, x = .str t ∧ y = .str t) ∨ (x = .non ∧ y = .non)) ∨ ∃ (e : Nat) (a b : Addr) (xs ys : List V), d = e + 1 ∧ x = .ref a ∧ y = .ref b ∧ H a = some (.tup xs) ∧ H b = some (.tup ys) ∧ xs.length = ys.length ∧ ∀ (i : Nat) (u v : V), xs[i]? = some u → ys[i]? = some v → SameV e H u v := by
      cases d with
      | zero => exact .inl hxy
      | succ e =>
        rcases hxy with h | ⟨a, b, xs, ys, h⟩
        · exact .inl h
        · exact .inr ⟨e, a, b, xs, ys, rfl, h⟩
    rcases flat with (⟨x, rfl, rfl⟩ | ⟨rfl, rfl⟩) | ⟨e, a, b, xs, ys, rfl, rfl, rfl, ha, hb, l, ih⟩
    · refine ⟨.str x, rfl, rfl, _, rfl, iteF ?_⟩
      refine ⟨.str x, rfl, .str x, .ty "bool", .type "str", .type "bool", false, rfl, .ty _, .base (.str x), kit_ty (by decide +kernel), false, rfl, iteF ?_⟩
      refine ⟨.str x, rfl, .str x, .ty "int", .type "str", .type "int", false, rfl, .ty _, .base (.str x), kit_ty (by decide +kernel), false, rfl, iteF ?_⟩
      refine ⟨.str x, rfl, .str x, .ty "str", .type "str", .type "str", true, rfl, .ty _, .base (.str x), kit_ty (by decide +kernel), true, rfl, iteT ?_⟩
      refine ⟨.str x, rfl, .str x, .ty "str", .type "str", .type "str", true, rfl, .ty _, .base (.str x), kit_ty (by decide +kernel), true, rfl, iteT ?_⟩
      refine ⟨.str x, rfl, .str x, rfl, rfl, ?_⟩
      rw [decide_eq_true rfl]
      exact q H (Same.refl _)
    · refine ⟨.non, rfl, rfl, _, rfl, iteT ?_⟩
      exact ⟨.non, rfl, rfl, q H (Same.refl _)⟩
    · refine ⟨.ref b, rfl, rfl, _, rfl, iteF ?_⟩
      refine ⟨.ref b, rfl, .ref b, .ty "bool", .type "tuple", .type "bool", false, rfl, .ty _, .base (.tup hb), kit_ty (by decide +kernel), false, rfl, iteF ?_⟩
      refine ⟨.ref b, rfl, .ref b, .ty "int", .type "tuple", .type "int", false, rfl, .ty _, .base (.tup hb), kit_ty (by decide +kernel), false, rfl, iteF ?_⟩
      refine ⟨.ref b, rfl, .ref b, .ty "str", .type "tuple", .type "str", false, rfl, .ty _, .base (.tup hb), kit_ty (by decide +kernel), false, rfl, iteF ?_⟩
      refine ⟨.ref b, rfl, .ref b, .ty "tuple", .type "tuple", .type "tuple", true, rfl, .ty _, .base (.tup hb), kit_ty (by decide +kernel), true, rfl, iteT ?_⟩
      refine ⟨.ref a, rfl, .ref a, .ty "tuple", .type "tuple", .type "tuple", true, rfl, .ty _, .base (.tup ha), kit_ty (by decide +kernel), true, rfl, iteF ?_⟩
      refine ⟨.ref b, rfl, .ref b, .ty "list", .type "tuple", .type "list", false, rfl, .ty _, .base (.tup hb), kit_ty (by decide +kernel), false, rfl, iteF ?_⟩
      refine ⟨.ref a, rfl, a, _, rfl, .inr (.inl (.inl ha)), .ref b, rfl, b, _, rfl, .inr (.inl (.inl hb)), rfl, _, rfl, ?_⟩
      rw [decide_eq_true (by rw [l])]
      refine iteF ?_
      refine ⟨.ref a, rfl, .ref b, rfl, a, b, _, _, rfl, .inr ⟨.inl (.inl ha), .inl (.inl hb), ?_⟩⟩
      refine for_it (walk_zipT (K := K) (a := a) (b := b) (xs := xs) (ys := ys) (n := ys.length) l rfl) (fun i σ H' => Same H H' ∧ ∃ y2 y3, σ = [some (.ref a), some (.ref b), y2, y3]) ⟨fun _ _ e => e, none, none, rfl⟩ (fun i σ H' _ hP => ⟨.inl (.inl (hP.1 _ _ ha)), .inl (.inl (hP.1 _ _ hb))⟩) (fun i v σ H1 H1' hi hW hY => ?_) (fun σ H1 hW => ?_)
      · obtain ⟨s1, y2, y3, rfl⟩ := hW
        obtain ⟨p, u1, u2, rfl, np, rfl, h1, h2⟩ := hY
        have s2 := s1.trans (same_new (o := .tup [u1, u2]) np)
        refine ⟨p, [u1, u2], rfl, .inl (.inl upd_same), rfl, u1, _, rfl, u2, [], rfl, rfl, ?_⟩
        exact ⟨u1, rfl, u2, rfl, u1, u2, rfl, (ih i u1 u2 h1 h2).mono (Tups.same s2), fun H3 s3 => ⟨true, rfl, iteF ⟨s2.trans s3, _, _, rfl⟩⟩⟩
      · obtain ⟨s1, y2, y3, rfl⟩ := hW
        exact q _ s1
theorem ok_same_d (T : TX K mg) : ∀ d : Nat, FnOk P w K mg base CX0 (d + 1) T.a_law_same T.fd_law_same ["got", "due"] (sp_same d)
  | 0 => ok_same_step T (d := 0) ok_none
  | d + 1 => ok_same_step T (d := d + 1) (ok_same_d T d)
def sp_law_same : Sp := fun vs H Q _ => ∃ (a b : Addr) (W : Wd), vs = [.ref a, .ref b] ∧ WdAt H a W ∧ WdAt H b W ∧ ∀ H', Same H H' → Q (.bl true) H'
theorem ok_law_same (T : TX K mg) : FnOk P w K mg base CX0 5 T.a_law_same T.fd_law_same ["got", "due"] (sp_same 4) := ok_same_d T 4
end
end LH

namespace LH
open PySem PySem.Spec PyProof.Rows L2 NdefX LamX LU
theorem hd_sm {z s h : List Nat} (zl : Zl z) (q : Hd z s h) : ∀ c ∈ h, c ≤ 124 := fun c hm => by
  cases q with
  | dot => rw [List.mem_singleton.mp hm]; decide
  | @one c' hc =>
    have := zl.2 c' hc
    have := List.mem_singleton.mp hm
    omega
  | brk h1 h2 h3 =>
    rcases List.mem_append.mp hm with hm | hm
    · rcases List.mem_cons.mp hm with hm | hm
      · rw [hm]; decide
      · have := zl.2 c (h3 c hm)
        omega
    · rw [List.mem_singleton.mp hm]; decide
theorem brT_sm {z : List Nat} (zl : Zl z) {its : List Itm} {t : List Nat} (q : BrT z its t) : ∀ c ∈ t, c ≤ 124 := by
  induction q with
  | nil => exact fun c h => nomatch h
  | cons hi _ ih =>
    obtain ⟨hm', hd, q, rfl⟩ := hi
    intro c hm
    rcases List.mem_append.mp hm with hm | hm
    · rcases List.mem_append.mp hm with hm | hm
      · exact hd_sm zl q c hm
      · rcases mkI_sign hm with h | h <;> rw [h] <;> decide
    · exact ih c hm
theorem goodP_sm {z pt : Str} (hz : IsLet z) (h : GoodP z pt) : ∀ c ∈ pt.cps.toList, c ≤ 124 := by
  obtain ⟨brs, ⟨ne, _, ts, ep, hl, ht⟩, _⟩ := h
  intro c hm
  rw [ep] at hm
  have zl : Zl z.cps.toList := ⟨by rw [Array.length_toList]; exact hz.five, hz.small⟩
  have sub : ∀ {parts : List Str}, c ∈ (Str.join (tJ [124]) parts).cps.toList → c = 124 ∨ ∃ p ∈ parts, c ∈ p.cps.toList := fun {parts} => by
    induction parts with
    | nil => exact fun h => nomatch h
    | cons a r ih =>
      intro hc
      cases r with
      | nil => exact .inr ⟨a, List.mem_cons_self, hc⟩
      | cons b r =>
        have hc : c ∈ (a ++ tJ [124] ++ Str.join (tJ [124]) (b :: r)).cps.toList := hc
        rw [stx, stx] at hc
        rcases List.mem_append.mp hc with hc | hc
        · rcases List.mem_append.mp hc with hc | hc
          · exact .inr ⟨a, List.mem_cons_self, hc⟩
          · exact .inl (List.mem_singleton.mp hc)
        · rcases ih hc with h | ⟨p, hp, q⟩
          · exact .inl h
          · exact .inr ⟨p, List.mem_cons_of_mem _ hp, q⟩
  rw [TL.join_eq] at hm
  rcases sub hm with h | ⟨p, hp, h10⟩
  · rw [h]; decide
  obtain ⟨t, htm, rfl⟩ := List.mem_map.mp hp
  obtain ⟨j, hj⟩ := List.mem_iff_getElem?.mp htm
  have lt := (List.getElem?_eq_some_iff.mp hj).1
  have bt := (ht j _ t (List.getElem?_eq_getElem (by omega)) hj).2.1
  exact brT_sm zl bt c h10
/-! ### worlds as data -/
def dG : Option Grd → PyData
  | none => .none
  | some G => .tuple [.str G.how, .str G.wh, .str (tx G.sm)]
def dR : Rul → PyData
  | .one x y g => .tuple [.str "one", .str (sg x), .str (sg y), dG g]
  | .two x y u v => .tuple [.str "two", .str (sg x), .str (sg y), .str (sg u), .str (sg v)]
  | .call x y im => .tuple [.str "call", .str (sg x), .str (sg y), .str (tx im)]
def dW (W : Wd) : PyData := .tuple [.str W.z, .str W.sh, .tuple (W.rs.map dR), .str W.b, .str W.d]
theorem dR_at {K : PySem.W.Frag} {H : Hp} {p : Addr} {R : Rul} (h : RulAt H p R) : Dp K H (.ref p) (dR R) := by
  cases R with
  | two x y u v => exact .tup (.inl (.inl h)) (.cons (.str _) (.cons (.str _) (.cons (.str _) (.cons (.str _) (.cons (.str _) .nil)))))
  | call x y im => exact .tup (.inl (.inl h)) (.cons (.str _) (.cons (.str _) (.cons (.str _) (.cons (.str _) .nil))))
  | one x y g =>
    obtain ⟨v, e, hg⟩ := h
    refine .tup (.inl (.inl e)) (.cons (.str _) (.cons (.str _) (.cons (.str _) (.cons ?_ .nil))))
    cases g with
    | none =>
      cases hg
      exact .non
    | some G =>
      obtain ⟨gp, rfl, eg⟩ := hg
      exact .tup (.inl (.inl eg)) (.cons (.str _) (.cons (.str _) (.cons (.str _) .nil)))
theorem dRs_at {K : PySem.W.Frag} {H : Hp} : ∀ {ps : List Addr} {rs : List Rul}, RulsAt H ps rs → DpAll K H (vr ps) (rs.map dR)
  | [], [], _ => .nil
  | [], _ :: _, h => nomatch h.1
  | _ :: _, [], h => nomatch h.1
  | p :: ps, R :: rs, h => .cons (dR_at (h.2 0 p R rfl rfl)) (dRs_at ⟨Nat.succ.inj h.1, fun i a b x y => h.2 (i + 1) a b x y⟩)
theorem dW_at {K : PySem.W.Frag} {H : Hp} {a : Addr} {W : Wd} (h : WdAt H a W) : Dp K H (.ref a) (dW W) := by
  obtain ⟨r, ps, e1, e2, l, q⟩ := h
  exact .tup (.inl (.inl e1)) (.cons (.str _) (.cons (.str _) (.cons (.tup (.inl (.inl e2)) (dRs_at ⟨l, q⟩)) (.cons (.str _) (.cons (.str _) .nil)))))
theorem strOk_of {s : Str} (h : ∀ c ∈ s.cps.toList, c ≤ 124) : PyData.strOk s = true := by
  unfold PyData.strOk
  rw [Array.all_eq_true']
  intro c hc
  have := h c (by simpa using hc)
  simp
  omega
theorem can_R {z sh : Str} (hz : IsLet z) {R : Rul} (ok : R.Ok z sh) : (dR R).canLay0 = true ∧ (dR R).depth ≤ 2 := by
  have s1 : ∀ c ∈ z.cps.toList, PyData.strOk (sg c) = true := fun c hc => strOk_of fun d hd => by
    have : d ∈ [c] := hd
    rw [List.mem_singleton.mp this]
    have := hz.small c hc
    omega
  have s2 : ∀ cs : List Nat, (∀ c ∈ cs, c ∈ z.cps.toList) → PyData.strOk (tx cs) = true := fun cs h => strOk_of fun d hd => by
    have := hz.small d (h d hd)
    omega
  have e1 : PyData.strOk "one" = true := by decide +kernel
  have e2 : PyData.strOk "two" = true := by decide +kernel
  have e3 : PyData.strOk "call" = true := by decide +kernel
  cases R with
  | two x y u v =>
    obtain ⟨a, b, c, d⟩ := ok
    refine ⟨?_, by simp [dR, PyData.depth, PyData.depthAll]⟩
    simp [dR, PyData.canLay0, PyData.canLayAll0, e2, s1 x a, s1 y b, s1 u c, s1 v d]
  | call x y im =>
    obtain ⟨a, b, c, d⟩ := ok
    refine ⟨?_, by simp [dR, PyData.depth, PyData.depthAll]⟩
    simp [dR, PyData.canLay0, PyData.canLayAll0, e3, s1 x a, s1 y b, s2 im d]
  | one x y g =>
    obtain ⟨a, b, c⟩ := ok
    cases g with
    | none =>
      refine ⟨?_, by simp [dR, dG, PyData.depth, PyData.depthAll]⟩
      simp [dR, dG, PyData.canLay0, PyData.canLayAll0, e1, s1 x a, s1 y b]
    | some G =>
      have og := c G rfl
      refine ⟨?_, by simp [dR, dG, PyData.depth, PyData.depthAll]⟩
      have h1 : PyData.strOk G.how = true := by rcases og.how with h | h <;> rw [h] <;> decide +kernel
      have h2 : PyData.strOk G.wh = true := by rcases og.wh with h | h | h <;> rw [h] <;> decide +kernel
      simp [dR, dG, PyData.canLay0, PyData.canLayAll0, e1, s1 x a, s1 y b, h1, h2, s2 G.sm og.sm]
theorem can_Rs {z sh : Str} (hz : IsLet z) : ∀ {rs : List Rul}, (∀ R ∈ rs, R.Ok z sh) → PyData.canLayAll0 (rs.map dR) = true ∧ PyData.depthAll (rs.map dR) ≤ 2
  | [], _ => ⟨rfl, by simp [PyData.depthAll]⟩
  | R :: r, h => by
    obtain ⟨a, b⟩ := can_R hz (h R List.mem_cons_self)
    obtain ⟨c, d⟩ := can_Rs hz fun x hx => h x (List.mem_cons_of_mem _ hx)
    refine ⟨by simp [PyData.canLayAll0, a, c], ?_⟩
    simp only [List.map_cons, PyData.depthAll]
    omega
theorem can_W {W : Wd} (ok : W.Ok) : (dW W).canLay0 = true ∧ (dW W).depth ≤ 4 := by
  obtain ⟨a, b⟩ := can_Rs ok.let_ ok.rs
  have h1 : PyData.strOk W.z = true := strOk_of fun c hc => by
    have := ok.let_.small c hc
    omega
  have h2 : PyData.strOk W.sh = true := by rcases ok.sh with h | h <;> rw [h] <;> decide +kernel
  have h3 := strOk_of (goodP_sm ok.let_ ok.b)
  have h4 := strOk_of (goodP_sm ok.let_ ok.d)
  refine ⟨by simp [dW, PyData.canLay0, PyData.canLayAll0, h1, h2, h3, h4, a], ?_⟩
  simp only [dW, PyData.depth, PyData.depthAll]
  omega
theorem shaped_W {W : Wd} (ok : W.Ok) : SeqAt.shaped (dW W) = true := by
  obtain ⟨a, b⟩ := can_W ok
  unfold SeqAt.shaped
  rw [a, decide_eq_true (by omega)]
  rfl
theorem eqv_G {a b : Option Grd} (h : PyData.eqv (dG a) (dG b) = true) : a = b := by
  cases a with
  | none => cases b with
    | none => rfl
    | some G => simp [dG, PyData.eqv] at h
  | some G => cases b with
    | none => simp [dG, PyData.eqv] at h
    | some G' =>
      simp only [dG, PyData.eqv, PyData.eqvAll, Bool.and_eq_true, beq_iff_eq] at h
      obtain ⟨h1, h2, h3, _⟩ := h
      obtain ⟨a1, a2, a3⟩ := G
      obtain ⟨b1, b2, b3⟩ := G'
      have h1 : a1 = b1 := h1
      have h2 : a2 = b2 := h2
      have h3 : a3 = b3 := tJ_inj h3
      rw [h1, h2, h3]
theorem eqv_R {a b : Rul} (h : PyData.eqv (dR a) (dR b) = true) : a = b := by
  have sgI : ∀ {a b : Nat}, sg a = sg b → a = b := fun {a b} h => congrArg (fun s : Str => s.cps.getD 0 0) h
  have d1 : ("one" : Str) ≠ "two" := by decide +kernel
  have d2 : ("one" : Str) ≠ "call" := by decide +kernel
  have d3 : ("two" : Str) ≠ "call" := by decide +kernel
  cases a with
  | two x y u v => cases b with
    | two x' y' u' v' =>
      simp only [dR, PyData.eqv, PyData.eqvAll, Bool.and_eq_true, beq_iff_eq] at h
      obtain ⟨_, h1, h2, h3, h4, _⟩ := h
      rw [sgI h1, sgI h2, sgI h3, sgI h4]
    | call x' y' im' =>
      simp only [dR, PyData.eqv, PyData.eqvAll, Bool.and_eq_true, beq_iff_eq] at h
      exact absurd h.1 d3
    | one x' y' g' =>
      simp only [dR, PyData.eqv, PyData.eqvAll, Bool.and_eq_true, beq_iff_eq] at h
      exact absurd h.1.symm d1
  | call x y im => cases b with
    | two x' y' u' v' =>
      simp only [dR, PyData.eqv, PyData.eqvAll, Bool.and_eq_true, beq_iff_eq] at h
      exact absurd h.1.symm d3
    | call x' y' im' =>
      simp only [dR, PyData.eqv, PyData.eqvAll, Bool.and_eq_true, beq_iff_eq] at h
      obtain ⟨_, h1, h2, h3, _⟩ := h
      have h3 : im = im' := tJ_inj h3
      rw [sgI h1, sgI h2, h3]
    | one x' y' g' =>
      simp only [dR, PyData.eqv, PyData.eqvAll, Bool.and_eq_true, beq_iff_eq] at h
      exact absurd h.1.symm d2
  | one x y g => cases b with
    | two x' y' u' v' =>
      simp only [dR, PyData.eqv, PyData.eqvAll, Bool.and_eq_true, beq_iff_eq] at h
      exact absurd h.1 d1
    | call x' y' im' =>
      simp only [dR, PyData.eqv, PyData.eqvAll, Bool.and_eq_true, beq_iff_eq] at h
      exact absurd h.1 d2
    | one x' y' g' =>
      simp only [dR, PyData.eqv, PyData.eqvAll, Bool.and_eq_true, beq_iff_eq] at h
      obtain ⟨_, h1, h2, h3, _⟩ := h
      rw [sgI h1, sgI h2, eqv_G h3]
theorem eqv_Rs : ∀ {a b : List Rul}, PyData.eqvAll (a.map dR) (b.map dR) = true → a = b
  | [], [], _ => rfl
  | [], _ :: _, h => by simp [PyData.eqvAll] at h
  | _ :: _, [], h => by simp [PyData.eqvAll] at h
  | x :: a, y :: b, h => by
    simp only [List.map_cons, PyData.eqvAll, Bool.and_eq_true] at h
    rw [eqv_R h.1, eqv_Rs h.2]
theorem eqv_W {V W : Wd} (ok : V.Ok) : PyData.eqv (dW V) (dW W) = true ↔ V = W := by
  constructor
  · intro h
    obtain ⟨a1, a2, a3, a4, a5⟩ := V
    obtain ⟨b1, b2, b3, b4, b5⟩ := W
    simp only [dW, PyData.eqv, PyData.eqvAll, Bool.and_eq_true, beq_iff_eq] at h
    obtain ⟨h1, h2, h3, h4, h5, _⟩ := h
    rw [h1, h2, eqv_Rs h3, h4, h5]
  · rintro rfl
    exact SeqAt.eqv_refl _ (can_W ok).1
end LH

namespace LH
open PySem PySem.Spec PyProof.Rows L2 NdefX LamX LU
theorem catA_use {K : PySem.W.Frag} {H : Hp} {a b : Addr} {xs ys : List V} {Q : VK} (ha : H a = some (.tup xs)) (hb : H b = some (.tup ys)) (hl : xs.length + ys.length ≤ 1000) (q : ∀ p H', Same H H' → H' p = some (.tup (xs ++ ys)) → Q (.ref p) H') : rCatA K (.ref a) (.ref b) H Q := by
  refine ⟨a, b, xs, ys, rfl, rfl, .inl (.inl ha), .inl (.inl hb), Nat.le_trans hl (by decide), fun h => ?_, fun _ h => ?_, fun _ _ p np => q p _ (same_new np) upd_same⟩
  · subst h
    exact q b H (Same.refl _) hb
  · subst h
    exact q a H (Same.refl _) (by rw [List.append_nil]; exact ha)
theorem slA_use {K : PySem.W.Frag} {H : Hp} {a : Addr} {xs : List V} {lo hi : Option Int} {Q : VK} (ha : H a = some (.tup xs)) (q : ∀ p H', Same H H' → H' p = some (.tup (cutV xs lo hi)) → Q (.ref p) H') : rSlA K (.ref a) lo hi H Q := by
  refine ⟨a, xs, rfl, .inl (.inl ha), fun h => ?_, fun _ p np => q p _ (same_new np) upd_same⟩
  refine q a H (Same.refl _) ?_
  unfold cutV
  rw [h.1, h.2, List.drop_zero, Nat.sub_zero, List.take_of_length_le (Nat.le_refl _)]
  exact ha
theorem cutV_from2 (as : List Addr) (a : Nat) : cutV (vr as) (some (a : Int)) none = vr (as.drop a) := by
  unfold cutV
  rw [HT.sIx_nat, HT.sIx_none, List.length_map, ← List.map_drop, ← List.map_take]
  congr 1
  by_cases h : a ≤ as.length
  · rw [Nat.min_eq_left h]
    exact List.take_of_length_le (by rw [List.length_drop]; exact Nat.le_refl _)
  · rw [Nat.min_eq_right (by omega), Nat.sub_self, List.take_zero, List.drop_of_length_le (show as.length ≤ a by omega)]
theorem cutV_to2 (as : List Addr) (a : Nat) : cutV (vr as) none (some (a : Int)) = vr (as.take a) := by
  unfold cutV
  rw [HT.sIx_nat, HT.sIx_none, List.length_map, Nat.sub_zero, List.drop_zero, ← List.map_take]
  congr 1
  by_cases h : a ≤ as.length
  · rw [Nat.min_eq_left h]
  · rw [Nat.min_eq_right (by omega), List.take_of_length_le (Nat.le_refl _), List.take_of_length_le (by omega)]
theorem RulsAt.take {H : Hp} {ps : List Addr} {rs : List Rul} (h : RulsAt H ps rs) (k : Nat) : RulsAt H (ps.take k) (rs.take k) := by
  refine ⟨by rw [List.length_take, List.length_take, h.1], fun i p R x y => ?_⟩
  rw [List.getElem?_take] at x y
  split at x
  · rename_i hi
    rw [if_pos hi] at y
    exact h.2 i p R x y
  · cases x
theorem RulsAt.drop {H : Hp} {ps : List Addr} {rs : List Rul} (h : RulsAt H ps rs) (k : Nat) : RulsAt H (ps.drop k) (rs.drop k) := by
  refine ⟨by rw [List.length_drop, List.length_drop, h.1], fun i p R x y => ?_⟩
  rw [List.getElem?_drop] at x y
  exact h.2 _ p R x y
theorem RulsAt.append {H : Hp} {ps qs : List Addr} {rs ss : List Rul} (h : RulsAt H ps rs) (g : RulsAt H qs ss) : RulsAt H (ps ++ qs) (rs ++ ss) := by
  refine ⟨by rw [List.length_append, List.length_append, h.1, g.1], fun i p R x y => ?_⟩
  by_cases hi : i < ps.length
  · rw [List.getElem?_append_left hi] at x
    rw [List.getElem?_append_left (by rw [← h.1]; exact hi)] at y
    exact h.2 i p R x y
  · rw [List.getElem?_append_right (by omega)] at x
    rw [List.getElem?_append_right (by rw [← h.1]; omega), ← h.1] at y
    exact g.2 _ p R x y
theorem same_put {H H' : Hp} {p : Addr} {o : HO} (s : Same H H') (n : H p = none) : Same H (upd H' p o) := fun b x hb => by
  rw [upd_ne (ne_of_none hb n)]
  exact s b x hb
theorem take_map_snoc {α β : Type} {f : α → β} {l : List α} {i : Nat} {x : α} (h : l[i]? = some x) : (l.take (i + 1)).map f = (l.take i).map f ++ [f x] := by
  rw [List.take_add_one, h, List.map_append]
  rfl
/-! ### the shape of a world put otherwise -/
def shR (sh : Str) : Rul → Rul
  | .one x y (some G) => if sh = "ring" then .one x y (some ⟨G.how, "others", G.sm⟩) else .one x y (some G)
  | R => R
def shW (W : Wd) (sh : Str) : Wd := ⟨W.z, sh, W.rs.map (shR sh), W.b, W.d⟩
theorem shR_ok {z sh sh' : Str} (h : sh' = "row" ∨ sh' = "ring") {R : Rul} (ok : R.Ok z sh) : (shR sh' R).Ok z sh' := by
  cases R with
  | two => exact ok
  | call => exact ok
  | one x y g =>
    cases g with
    | none => exact ⟨ok.1, ok.2.1, fun G e => nomatch e⟩
    | some G =>
      have og := ok.2.2 G rfl
      unfold shR
      dsimp only
      split
      · refine ⟨ok.1, ok.2.1, fun G' e => ?_⟩
        cases e
        exact ⟨og.how, .inr (.inr rfl), fun _ => rfl, og.sm, og.one, og.up⟩
      · rename_i n
        refine ⟨ok.1, ok.2.1, fun G' e => ?_⟩
        cases e
        exact ⟨og.how, og.wh, fun e => absurd e n, og.sm, og.one, og.up⟩
theorem shW_ok {W : Wd} {sh : Str} (h : sh = "row" ∨ sh = "ring") (ok : W.Ok) : (shW W sh).Ok := by
  refine ⟨ok.let_, h, fun R hR => ?_, ok.b, ok.d⟩
  obtain ⟨R', h1, rfl⟩ := List.mem_map.mp hR
  exact shR_ok h (ok.rs R' h1)
section
variable {P : Program} {w : World} {K : PySem.W.Frag} {mg : Str → Option Value} {base : Heap}
def sp_shape : Sp := fun vs H Q _ => ∃ (a : Addr) (W : Wd) (sh : Str), vs = [.ref a, .str sh] ∧ WdAt H a W ∧ W.rs.length ≤ 8 ∧ ∀ H' b, Same H H' → WdAt H' b (shW W sh) → Q (.ref b) H'
theorem ok_law_shape (T : TX K mg) : FnOk P w K mg base CX0 1 T.a_law_shape T.fd_law_shape ["world", "shape"] sp_shape := by
  refine T.F_law_shape.ok sc_law_shape (fun vs H Q E h => ?_) (fun cdv A outer s H vs Q E hr h => ?_)
  · obtain ⟨a, W, sh, rfl, _⟩ := h
    rfl
  · obtain ⟨a, W, sh, rfl, hW, m8, q⟩ := h
    refine ⟨_, (pss_cons (ps_asg (pv 0) (pg_tupK (n := 5) K rfl (by rfl) (pgs_cons (pg_name (i := 2) sc_law_shape.nd rfl (Or.inl rfl)) (pgs_cons (pg_name (i := 3) sc_law_shape.nd rfl (Or.inl rfl)) (pgs_cons (pg_name (i := 4) sc_law_shape.nd rfl (Or.inl rfl)) (pgs_cons (pg_name (i := 5) sc_law_shape.nd rfl (Or.inl rfl)) (pgs_cons (pg_name (i := 6) sc_law_shape.nd rfl (Or.inl rfl)) pgs_nil)))))))
      (pss_cons (ps_set (i := 7) sc_law_shape.nd rfl (Or.inl rfl) (pe_lst pa_nil))
      (pss_cons (ps_for PassesOwn.never rfl (pi_tupK K rfl (pv 4)) (pg_name (i := 8) sc_law_shape.nd rfl (Or.inl rfl))
        (C8.pss_cut (ps_if (PW.pt (pw_and (pt_cmpR op_eq (pe_ix (ix_tupK K rfl) (pv 8) pe_int (fun _ _ => rfl)) pe_str (nomark _)) (pw_and (pt_cmpR op_notN (pe_ix (ix_tupK K rfl) (pv 8) pe_int (fun _ _ => rfl)) pe_non (nomark _)) (pw_and1 (pt_cmpR op_eq (pv 1) pe_str (nomark _))))))
            (pss_one (ps_set (i := 8) sc_law_shape.nd rfl (Or.inl rfl) (pe_op op_catA (pe_slice sl_tupA (pv 8) po_none (po_some pe_int)) (pe_tup (pa_cons (pe_tup (pa_cons (pe_ix (ix_tupK K rfl) (pe_ix (ix_tupK K rfl) (pv 8) pe_int (fun _ _ => rfl)) pe_int (fun _ _ => rfl)) (pa_cons pe_str (pa_cons (pe_ix (ix_tupK K rfl) (pe_ix (ix_tupK K rfl) (pv 8) pe_int (fun _ _ => rfl)) pe_int (fun _ _ => rfl)) pa_nil)))) pa_nil)))))
            pss_nil)
          (pss_one (ps_expr (pe_bmK K rfl PySem.F.plainAttrs_list PySem.F.slot_list_append PySem.F.type_list_append mt_append (pv 7) (pa_cons (pv 8) pa_nil))))))
      (pss_one (ps_ret (pe_tup (pa_cons (pv 2) (pa_cons (pv 1) (pa_cons (pe_callTy (call_tupleK K rfl) (by rfl) T.m_tuple (by decide +kernel) (pa_cons (pv 7) pa_nil)) (pa_cons (pv 5) (pa_cons (pv 6) pa_nil))))))))))), ?_⟩
    obtain ⟨S, ps, e1, e2, l1, rl⟩ := hW
    have ru : RulsAt H ps W.rs := ⟨l1, rl⟩
    refine ⟨.ref a, rfl, a, _, rfl, .inl (.inl e1), rfl, .str W.z, _, rfl, .str W.sh, _, rfl, .ref S, _, rfl, .str W.b, _, rfl, .str W.d, [], rfl, rfl, ?_⟩
    refine ⟨by show 0 ≤ sizeLine; decide, fun L nL => ?_⟩
    refine ⟨.ref S, rfl, S, rfl, ⟨_, .inl (.inl ((same_new (o := .lst []) nL) _ _ e2))⟩, ?_⟩
    refine for_it (walk_tup (K := K) (a := S) (xs := vr ps)) (fun i σ H' => ∃ (y8 : Option V), σ = [some (.ref a), some (.str sh), some (.str W.z), some (.str W.sh), some (.ref S), some (.str W.b), some (.str W.d), some (.ref L), y8] ∧ Same H H' ∧ ∃ qs, H' L = some (.lst (vr qs)) ∧ RulsAt H' qs ((W.rs.take i).map (shR sh))) ⟨none, rfl, same_new nL, [], upd_same, RulsAt.nil⟩ (fun i σ H' _ hP => ?_) (fun i x σ H2 H2' hi hP hY => ?_) (fun σ H2 hP => ?_)
    · obtain ⟨_, _, s2, _⟩ := hP
      exact .inl (.inl (s2 _ _ e2))
    · obtain ⟨y8, rfl, s2, qs, eL, rq⟩ := hP
      obtain ⟨rfl, hx⟩ := hY
      rw [List.getElem?_map] at hx
      obtain ⟨p1, hp1, rfl⟩ := Option.map_eq_some_iff.mp hx
      have hi := (List.getElem?_eq_some_iff.mp hp1).1
      have hR := List.getElem?_eq_getElem (l := W.rs) (i := i) (by omega)
      generalize W.rs[i]'(by omega) = R at hR
      have hp2 := (ru.2 i p1 R hp1 hR).mono (Tups.same s2)
      have ql : qs.length ≤ 8 := by
        have h := rq.1
        rw [List.length_map, List.length_take] at h
        omega
      refine ⟨fun σ' H' => ∃ (p' : Addr), σ' = [some (.ref a), some (.str sh), some (.str W.z), some (.str W.sh), some (.ref S), some (.str W.b), some (.str W.d), some (.ref L), some (.ref p')] ∧ Same H2' H' ∧ RulAt H' p' (shR sh R), ?_, fun σ' H3 hM => ?_⟩
      · cases R with
        | two x y u v =>
          have e : H2' p1 = some (.tup [.str "two", .str (sg x), .str (sg y), .str (sg u), .str (sg v)]) := hp2
          refine ⟨.ref p1, rfl, p1, _, 0, .str "two", rfl, rfl, .inl (.inl e), atI_nat (j := 0) rfl, rfl, _, rfl, iteF' (by decide +kernel) (iteF ?_)⟩
          exact ⟨p1, rfl, Same.refl _, e⟩
        | call x y im =>
          have e : H2' p1 = some (.tup [.str "call", .str (sg x), .str (sg y), .str (tx im)]) := hp2
          refine ⟨.ref p1, rfl, p1, _, 0, .str "call", rfl, rfl, .inl (.inl e), atI_nat (j := 0) rfl, rfl, _, rfl, iteF' (by decide +kernel) (iteF ?_)⟩
          exact ⟨p1, rfl, Same.refl _, e⟩
        | one x y g =>
          obtain ⟨v, e, hg⟩ := id hp2
          refine ⟨.ref p1, rfl, p1, _, 0, .str "one", rfl, rfl, .inl (.inl e), atI_nat (j := 0) rfl, rfl, _, rfl, iteT' (by decide +kernel) ?_⟩
          cases g with
          | none =>
            cases hg
            refine ⟨.ref p1, rfl, p1, _, 3, .non, rfl, rfl, .inl (.inl e), atI_nat (j := 3) rfl, rfl, _, rfl, iteF (iteF ?_)⟩
            exact ⟨p1, rfl, Same.refl _, hp2⟩
          | some G =>
            obtain ⟨gp, rfl, eg⟩ := hg
            refine ⟨.ref p1, rfl, p1, _, 3, .ref gp, rfl, rfl, .inl (.inl e), atI_nat (j := 3) rfl, rfl, _, rfl, iteT ?_⟩
            refine ⟨.str sh, rfl, rfl, _, rfl, ite2 (fun er => ?_) (fun er => ?_)⟩
            · have er : sh = "ring" := by simpa using er
              refine ⟨.ref p1, rfl, _, rfl, slA_use e fun p3 H3 s3 e3 => ?_⟩
              have e' := s3 _ _ e
              have eg' := s3 _ _ eg
              refine ⟨.ref p1, rfl, p1, _, 3, .ref gp, rfl, rfl, .inl (.inl e'), atI_nat (j := 3) rfl, gp, _, 0, .str G.how, rfl, rfl, .inl (.inl eg'), atI_nat (j := 0) rfl, ?_⟩
              refine ⟨.ref p1, rfl, p1, _, 3, .ref gp, rfl, rfl, .inl (.inl e'), atI_nat (j := 3) rfl, gp, _, 2, .str (tx G.sm), rfl, rfl, .inl (.inl eg'), atI_nat (j := 2) rfl, ?_⟩
              refine ⟨by show 3 ≤ sizeLine; decide, fun g2 n2 => ⟨by show 1 ≤ sizeLine; decide, fun t n3 => ?_⟩⟩
              have eg2 := (same_new (o := .tup [.ref g2]) n3) _ _ (upd_same (H := H3) (a := g2) (o := .tup [.str G.how, .str "others", .str (tx G.sm)]))
              have s5 := (same_new (o := .tup [.str G.how, .str "others", .str (tx G.sm)]) n2).trans (same_new (o := .tup [.ref g2]) n3)
              refine catA_use (s5 _ _ e3) upd_same (by show 3 + 1 ≤ 1000; decide) fun p6 H6 s6 e6 => ?_
              refine ⟨p6, rfl, (s3.trans s5).trans s6, ?_⟩
              unfold shR
              dsimp only
              rw [if_pos er]
              exact ⟨.ref g2, e6, g2, rfl, s6 _ _ eg2⟩
            · have er : ¬ sh = "ring" := fun h => er (by simp [h])
              refine ⟨p1, rfl, Same.refl _, ?_⟩
              unfold shR
              dsimp only
              rw [if_neg er]
              exact hp2
      · obtain ⟨p', rfl, s3, hp'⟩ := hM
        have eL3 := s3 _ _ eL
        refine ⟨.ref L, rfl, .inl ⟨rfl, _, .inl (.inl eL3)⟩, .ref p', rfl, L, _, .ref p', rfl, rfl, eL3, ?_, _, rfl, ?_, qs ++ [p'], ?_, ?_⟩
        · rw [List.length_map]
          exact fit6 (by omega)
        · exact same_put (s2.trans s3) nL
        · rw [upd_same, vr_snoc]
        · rw [take_map_snoc hR]
          exact ((rq.mono (Tups.same s3)).snoc hp').mono (Tups.lst eL3)
    · obtain ⟨y8, rfl, s2, qs, eL, rq⟩ := hP
      rw [List.take_of_length_le (by rw [List.length_map]; omega)] at rq
      refine ⟨.str W.z, rfl, .str sh, rfl, .ref L, rfl, L, vr qs, rfl, .inl ⟨.inl (.inl eL), fun l nl => ?_⟩⟩
      have el := upd_same (H := H2) (a := l) (o := .tup (vr qs))
      have s3 := same_new (o := .tup (vr qs)) nl
      refine ⟨.str W.b, rfl, .str W.d, rfl, by show 5 ≤ sizeLine; decide, fun b nb => ?_⟩
      have s4 := same_new (o := .tup [.str W.z, .str sh, .ref l, .str W.b, .str W.d]) nb
      exact q _ b ((s2.trans s3).trans s4) ⟨l, qs, upd_same, s4 _ _ el, rq.1, (rq.mono (Tups.same (s3.trans s4))).2⟩
end
end LH

namespace LH
open PySem PySem.Spec PyProof.Rows L2 NdefX LamX LU
theorem RowAt.sameW {H H' : Hp} {r : Addr} (s : Same H H') (R : RowAt H r) : RowAt H' r := by
  obtain ⟨a, b, e, h⟩ := R
  exact ⟨a, b, s _ _ e, h⟩
theorem noPart {σ : L2.St} {H : Hp} {Q : Option Int → Hp → Prop} (h : Q none H) : tNoPart σ H Q := h
section
variable {P : Program} {w : World} {K : PySem.W.Frag} {mg : Str → Option Value} {base : Heap}
def sp_near : Sp := fun vs H Q _ => ∃ (r a : Addr) (W : Wd), vs = [.ref r, .ref a] ∧ RowAt H r ∧ WdAt H a W ∧ W.Ok ∧ W.Lit ∧ ∀ H' b V, Off r H H' → RowAt H' r → WdAt H' b V → V.Ok → V.Lit → Q (.ref b) H'
theorem ok_law_near (T : TX K mg) : FnOk P w K mg base CX0 6 T.a_law_near T.fd_law_near ["well", "world"] sp_near := by
  have G_law_draw : FnOk P w K mg base CX0 1 T.a_law_draw T.fd_law_draw ["well", "many"] sp_law_draw := ok_law_draw T
  have G_law_shape : FnOk P w K mg base CX0 1 T.a_law_shape T.fd_law_shape ["world", "shape"] sp_shape := ok_law_shape T
  have G_law_rule : FnOk P w K mg base CX0 4 T.a_law_rule T.fd_law_rule ["well", "letters", "shape", "kind"] sp_law_rule := ok_law_rule T
  have G_law_pattern : FnOk P w K mg base CX0 5 T.a_law_pattern T.fd_law_pattern ["well", "letters"] sp_pat := ok_law_pattern T
  refine T.F_law_near.ok sc_law_near (fun vs H Q E h => ?_) (fun cdv A outer s H vs Q E hr h => ?_)
  · obtain ⟨r, a, W, rfl, _⟩ := h
    rfl
  · obtain ⟨r, a, W, rfl, hR, hW, ok, lit, q⟩ := h
    refine ⟨_, (pss_cons (ps_asg (pv 1) (pg_tupK (n := 5) K rfl (by rfl) (pgs_cons (pg_name (i := 2) sc_law_near.nd rfl (Or.inl rfl)) (pgs_cons (pg_name (i := 3) sc_law_near.nd rfl (Or.inl rfl)) (pgs_cons (pg_name (i := 4) sc_law_near.nd rfl (Or.inl rfl)) (pgs_cons (pg_name (i := 5) sc_law_near.nd rfl (Or.inl rfl)) (pgs_cons (pg_name (i := 6) sc_law_near.nd rfl (Or.inl rfl)) pgs_nil)))))))
      (pss_cons (ps_set (i := 7) sc_law_near.nd rfl (Or.inl rfl) (pe_call G_law_draw (hr.mono (by decide)) (by rfl) T.g_law_draw T.F_law_draw.kp T.b_law_draw .nil pass0 (pa_cons (pv 0) (pa_cons pe_int pa_nil))))
      (pss_cons (ps_if (pt_cmpR op_eq (pv 7) pe_int (nomark _))
        (pss_one (ps_ret (pe_call G_law_shape (hr.mono (by decide)) (by rfl) T.g_law_shape T.F_law_shape.kp T.b_law_shape .nil pass0 (pa_cons (pv 1) (pa_cons (pe_ix (ix_listK K rfl) (pe_lst (pa_cons pe_str (pa_cons pe_str pa_nil))) (pe_callTy call_int1 (by rfl) T.m_int (by decide +kernel) (pa_cons (pe_cmpR op_eq (pv 3) pe_str (nomark _)) pa_nil)) (fun _ _ => rfl)) pa_nil)))))
        pss_nil)
      (pss_cons (ps_if (pt_cmpR op_eq (pv 7) pe_int (nomark _))
        (pss_one (ps_ret (pe_tup (pa_cons (pv 2) (pa_cons (pv 3) (pa_cons (pe_op op_catA (pe_slice sl_tupA (pv 4) (po_some pe_int) po_none) (pe_slice sl_tupA (pv 4) po_none (po_some pe_int))) (pa_cons (pv 5) (pa_cons (pv 6) pa_nil))))))))
        pss_nil)
      (pss_cons (ps_if (pt_cmpR op_eq (pv 7) pe_int (nomark _))
        (pss_one (ps_ret (pe_tup (pa_cons (pv 2) (pa_cons (pv 3) (pa_cons (pv 4) (pa_cons (pv 6) (pa_cons (pv 5) pa_nil))))))))
        pss_nil)
      (pss_cons (ps_if (pt_cmpR op_eq (pv 7) pe_int (nomark _))
        (pss_one (ps_ret (pe_tup (pa_cons (pv 2) (pa_cons (pv 3) (pa_cons (pv 4) (pa_cons (pe_call G_law_pattern (hr.mono (by decide)) (by rfl) T.g_law_pattern T.F_law_pattern.kp T.b_law_pattern .nil pass0 (pa_cons (pv 0) (pa_cons (pv 2) pa_nil))) (pa_cons (pv 6) pa_nil))))))))
        pss_nil)
      (pss_cons (ps_if (pt_cmpR op_eq (pv 7) pe_int (nomark _))
        (pss_one (ps_ret (pe_tup (pa_cons (pv 2) (pa_cons (pv 3) (pa_cons (pv 4) (pa_cons (pv 5) (pa_cons (pe_call G_law_pattern (hr.mono (by decide)) (by rfl) T.g_law_pattern T.F_law_pattern.kp T.b_law_pattern .nil pass0 (pa_cons (pv 0) (pa_cons (pv 2) pa_nil))) pa_nil))))))))
        pss_nil)
      (pss_cons (ps_set (i := 8) sc_law_near.nd rfl (Or.inl rfl) (pe_call G_law_draw (hr.mono (by decide)) (by rfl) T.g_law_draw T.F_law_draw.kp T.b_law_draw .nil pass0 (pa_cons (pv 0) (pa_cons (pe_op op_add (pe_callB (call_lenK K rfl) (by rfl) T.m_len (by decide +kernel) (pa_cons (pv 4) pa_nil)) pe_int) pa_nil))))
      (pss_cons (ps_set (i := 9) sc_law_near.nd rfl (Or.inl rfl) (pe_call G_law_rule (hr.mono (by decide)) (by rfl) T.g_law_rule T.F_law_rule.kp T.b_law_rule .nil pass0 (pa_cons (pv 0) (pa_cons (pv 2) (pa_cons (pv 3) (pa_cons (pe_call G_law_draw (hr.mono (by decide)) (by rfl) T.g_law_draw T.F_law_draw.kp T.b_law_draw .nil pass0 (pa_cons (pv 0) (pa_cons pe_int pa_nil))) pa_nil))))))
      (pss_one (ps_ret (pe_tup (pa_cons (pv 2) (pa_cons (pv 3) (pa_cons (pe_slice sl_tupA (pe_op op_catA (pe_op op_catA (pe_slice sl_tupA (pv 4) po_none (po_some (pv 8))) (pe_tup (pa_cons (pv 9) pa_nil))) (pe_slice sl_tupA (pv 4) (po_some (pe_op op_add (pv 8) pe_int)) po_none)) po_none (po_some pe_int)) (pa_cons (pv 5) (pa_cons (pv 6) pa_nil))))))))))))))))), ?_⟩
    obtain ⟨S, ps, e1, e2, l1, rl⟩ := id hW
    have ru : RulsAt H ps W.rs := ⟨l1, rl⟩
    have hz := ok.let_
    have m8 := lit.many
    refine ⟨.ref a, rfl, a, _, rfl, .inl (.inl e1), rfl, .str W.z, _, rfl, .str W.sh, _, rfl, .ref S, _, rfl, .str W.b, _, rfl, .str W.d, [], rfl, rfl, ?_⟩
    refine ⟨.ref r, rfl, r, 6, rfl, hR, by decide, by decide, fun H1 g o1 R1 g0 g1 => ?_⟩
    have t1 := Tups.off hR o1
    have hW1 := hW.mono t1
    have ru1 := ru.mono t1
    have e21 := t1 _ _ e2
    -- a world put together at the end
    have fin : ∀ (H2 H3 : Hp) (S2 b : Addr) (qs : List Addr) (V : Wd), Off r H H2 → RowAt H2 r → Same H2 H3 → H2 S2 = some (.tup (vr qs)) → RulsAt H2 qs V.rs → H3 b = some (.tup [.str V.z, .str V.sh, .ref S2, .str V.b, .str V.d]) → V.Ok → V.Lit → Q (.ref b) H3 := fun H2 H3 S2 b qs V o R s e q2 eb vo vl =>
      q H3 b V (o.trans (.of s)) (R.sameW s) ⟨S2, qs, eb, s _ _ e, q2.1, (q2.mono (Tups.same s)).2⟩ vo vl
    refine ⟨.int g, rfl, rfl, _, rfl, ite2 (fun c0 => ?_) (fun c0 => ?_)⟩
    · refine ⟨.ref a, rfl, by show 2 ≤ sizeLine; decide, fun p n => ?_⟩
      refine ⟨.str W.sh, rfl, rfl, .inr ⟨_, rfl, ?_⟩⟩
      have s1 := same_new (o := .lst [.str "row", .str "ring"]) n
      have ep := upd_same (H := H1) (a := p) (o := .lst [.str "row", .str "ring"])
      have go : ∀ sh : Str, (sh = "row" ∨ sh = "ring") → sp_shape [.ref a, .str sh] (upd H1 p (.lst [.str "row", .str "ring"])) Q (fun _ _ _ => False) := fun sh hs =>
        ⟨a, W, sh, rfl, hW1.mono (Tups.same s1), m8, fun H2 b s2 hb => q H2 b (shW W sh) (o1.trans (.of (s1.trans s2))) (R1.sameW (s1.trans s2)) hb (shW_ok hs ok) ⟨by show (W.rs.map _).length ≤ 8; rw [List.length_map]; exact m8, lit.b, lit.d⟩⟩
      rcases ok.sh with h | h
      · rw [show decide (V.str W.sh = V.str (Str.ofString "row")) = true by rw [h]; decide +kernel]
        exact ⟨p, _, 1, .str "ring", rfl, rfl, .inl (.inl ep), rfl, go "ring" (.inr rfl)⟩
      · rw [show decide (V.str W.sh = V.str (Str.ofString "row")) = false by rw [h]; decide +kernel]
        exact ⟨p, _, 0, .str "row", rfl, rfl, .inl (.inl ep), rfl, go "row" (.inl rfl)⟩
    refine ⟨.int g, rfl, rfl, _, rfl, ite2 (fun c1 => ?_) (fun c1 => ?_)⟩
    · refine ⟨.str W.z, rfl, .str W.sh, rfl, ?_⟩
      refine ⟨.ref S, rfl, ?_⟩
      refine ⟨_, rfl, ?_⟩
      refine noPart ?_
      refine slA_use e21 fun p2 H2 s2 x2 => ?_
      refine ⟨.ref S, rfl, _, rfl, slA_use (s2 _ _ e21) fun p3 H3 s3 x3 => ?_⟩
      rw [show (1 : Int) = ((1 : Nat) : Int) from rfl, cutV_from2] at x2
      rw [show (1 : Int) = ((1 : Nat) : Int) from rfl, cutV_to2] at x3
      refine catA_use (s3 _ _ x2) x3 (by rw [List.length_map, List.length_map, List.length_drop, List.length_take]; have := ru.1; omega) fun p4 H4 s4 x4 => ?_
      have s14 := (s2.trans s3).trans s4
      have ru4 := ru1.mono (Tups.same s14)
      rw [← List.map_append] at x4
      refine ⟨.str W.b, rfl, .str W.d, rfl, by show 5 ≤ sizeLine; decide, fun b nb => ?_⟩
      refine fin H4 _ p4 b _ ⟨W.z, W.sh, W.rs.drop 1 ++ W.rs.take 1, W.b, W.d⟩ (o1.trans (.of s14)) (R1.sameW s14) (same_new nb) x4 ((ru4.drop 1).append (ru4.take 1)) upd_same ⟨hz, ok.sh, fun R hR => ?_, ok.b, ok.d⟩ ⟨?_, lit.b, lit.d⟩
      · rcases List.mem_append.mp hR with h | h
        · exact ok.rs R (List.mem_of_mem_drop h)
        · exact ok.rs R (List.mem_of_mem_take h)
      · show (W.rs.drop 1 ++ W.rs.take 1).length ≤ 8
        rw [List.length_append, List.length_drop, List.length_take]
        omega
    refine ⟨.int g, rfl, rfl, _, rfl, ite2 (fun c2 => ?_) (fun c2 => ?_)⟩
    · refine ⟨.str W.z, rfl, .str W.sh, rfl, .ref S, rfl, .str W.d, rfl, .str W.b, rfl, by show 5 ≤ sizeLine; decide, fun b nb => ?_⟩
      exact fin H1 _ S b ps ⟨W.z, W.sh, W.rs, W.d, W.b⟩ o1 R1 (same_new nb) e21 ru1 upd_same ⟨hz, ok.sh, ok.rs, ok.d, ok.b⟩ ⟨m8, lit.d, lit.b⟩
    refine ⟨.int g, rfl, rfl, _, rfl, ite2 (fun c3 => ?_) (fun c3 => ?_)⟩
    · refine ⟨.str W.z, rfl, .str W.sh, rfl, .ref S, rfl, .ref r, rfl, .str W.z, rfl, r, W.z, rfl, R1, hz, fun H2 y o2 R2 gy ly => ?_⟩
      have t2 := Tups.off R1 o2
      refine ⟨.str W.d, rfl, by show 5 ≤ sizeLine; decide, fun b nb => ?_⟩
      exact fin H2 _ S b ps ⟨W.z, W.sh, W.rs, y, W.d⟩ (o1.trans o2) R2 (same_new nb) (t2 _ _ e21) (ru1.mono t2) upd_same ⟨hz, ok.sh, ok.rs, gy, ok.d⟩ ⟨m8, ly, lit.d⟩
    refine ⟨.int g, rfl, rfl, _, rfl, ite2 (fun c4 => ?_) (fun c4 => ?_)⟩
    · refine ⟨.str W.z, rfl, .str W.sh, rfl, .ref S, rfl, .str W.b, rfl, .ref r, rfl, .str W.z, rfl, r, W.z, rfl, R1, hz, fun H2 y o2 R2 gy ly => ?_⟩
      have t2 := Tups.off R1 o2
      refine ⟨by show 5 ≤ sizeLine; decide, fun b nb => ?_⟩
      exact fin H2 _ S b ps ⟨W.z, W.sh, W.rs, W.b, y⟩ (o1.trans o2) R2 (same_new nb) (t2 _ _ e21) (ru1.mono t2) upd_same ⟨hz, ok.sh, ok.rs, ok.b, gy⟩ ⟨m8, lit.b, ly⟩
    have vl : ((vr ps).length : Int) ≤ 8 := by rw [List.length_map, l1]; omega
    refine ⟨.ref r, rfl, .ref S, rfl, S, _, rfl, .inr (.inl (.inl e21)), _, _, rfl, rfl, r, _, rfl, R1, by omega, by omega, fun H2 at_ o2 R2 a0 a1 => ?_⟩
    have t2 := Tups.off R1 o2
    refine ⟨.ref r, rfl, .str W.z, rfl, .str W.sh, rfl, .ref r, rfl, r, 4, rfl, R2, by decide, by decide, fun H3 kd o3 R3 k0 k1 => ?_⟩
    have t3 := Tups.off R2 o3
    refine ⟨r, W.z, W.sh, kd, rfl, R3, hz, fun H4 p4 R o4 R4 hp ok4 _ => ?_⟩
    have t4 := Tups.off R3 o4
    have e24 := t4 _ _ (t3 _ _ (t2 _ _ e21))
    have ru4 := ((ru1.mono t2).mono t3).mono t4
    have o14 := ((o1.trans o2).trans o3).trans o4
    obtain ⟨k, rfl⟩ : ∃ k : Nat, at_ = (k : Int) := ⟨at_.toNat, by omega⟩
    rw [List.length_map, l1] at a1
    have k8 : k ≤ W.rs.length := by omega
    refine ⟨.str W.z, rfl, .str W.sh, rfl, .ref S, rfl, .int (k : Int), rfl, (k : Int), rfl, slA_use e24 fun p5 H5 s5 x5 => ?_⟩
    refine ⟨.ref p4, rfl, by show 1 ≤ sizeLine; decide, fun p6 n6 => ?_⟩
    have s6 := same_new (o := .tup [.ref p4]) n6
    have x6 := upd_same (H := H5) (a := p6) (o := .tup [.ref p4])
    have x56 := s6 _ _ x5
    generalize upd H5 p6 (.tup [.ref p4]) = H6 at s6 x6 x56
    rw [cutV_to2] at x56
    have tl : (ps.take k).length ≤ 8 := by rw [List.length_take]; omega
    refine catA_use x56 x6 (by rw [List.length_map]; show (ps.take k).length + 1 ≤ 1000; omega) fun p7 H7 s7 x7 => ?_
    have s57 := (s5.trans s6).trans s7
    refine ⟨.ref S, rfl, .int (k : Int), rfl, _, _, rfl, rfl, _, rfl, ?_⟩
    refine noPart ?_
    refine slA_use (s57 _ _ e24) fun p8 H8 s8 x8 => ?_
    rw [show (k : Int) + 1 = ((k + 1 : Nat) : Int) by omega, cutV_from2] at x8
    refine catA_use (s8 _ _ x7) x8 ?_ fun p9 H9 s9 x9 => ?_
    · rw [List.length_append, List.length_map, List.length_map, List.length_drop]
      show (ps.take k).length + 1 + _ ≤ 1000
      omega
    refine noPart ?_
    refine ⟨8, rfl, ?_⟩
    refine slA_use x9 fun p10 H10 s10 x10 => ?_
    have s510 := ((s57.trans s8).trans s9).trans s10
    have ru10 := ru4.mono (Tups.same s510)
    have ep10 := hp.mono (Tups.same s510)
    have ee : vr (ps.take k) ++ [V.ref p4] ++ vr (ps.drop (k + 1)) = vr (ps.take k ++ [p4] ++ ps.drop (k + 1)) := by
      show List.map _ _ ++ _ ++ List.map _ _ = List.map _ _
      rw [List.map_append, List.map_append]
      rfl
    rw [ee, show (8 : Int) = ((8 : Nat) : Int) from rfl, cutV_to2] at x10
    have runew := (((ru10.take k).snoc ep10).append (ru10.drop (k + 1))).take 8
    refine ⟨.str W.b, rfl, .str W.d, rfl, by show 5 ≤ sizeLine; decide, fun b nb => ?_⟩
    refine fin H10 _ p10 b _ ⟨W.z, W.sh, ((W.rs.take k ++ [R]) ++ W.rs.drop (k + 1)).take 8, W.b, W.d⟩ (o14.trans (.of s510)) (R4.sameW s510) (same_new nb) x10 runew upd_same ⟨hz, ok.sh, fun R' hR => ?_, ok.b, ok.d⟩ ⟨?_, lit.b, lit.d⟩
    · rcases List.mem_append.mp (List.mem_of_mem_take hR) with h | h
      · rcases List.mem_append.mp h with h | h
        · exact ok.rs R' (List.mem_of_mem_take h)
        · rw [List.mem_singleton.mp h]
          exact ok4
      · exact ok.rs R' (List.mem_of_mem_drop h)
    · show (List.take 8 _).length ≤ 8
      rw [List.length_take]
      exact Nat.min_le_left _ _
end
end LH

namespace LH
open PySem PySem.Spec PyProof.Rows L2 NdefX LamX LU
def tot (ls : List Str) : Nat := (ls.map fun y => y.length + 1).sum
theorem tot_cons (x : Str) (r : List Str) : tot (x :: r) = x.length + 1 + tot r := rfl
theorem tot_app (a b : List Str) : tot (a ++ b) = tot a + tot b := by
  unfold tot
  rw [List.map_append, List.sum_append]
theorem tot_join {y : Str} (h : y.length = 1) : ∀ parts : List Str, parts ≠ [] → (Str.join y parts).length + 1 = tot parts
  | [], h => absurd rfl h
  | [a], _ => rfl
  | a :: b :: r, _ => by
    have ih := tot_join h (b :: r) (by simp)
    have l1 : (Str.join y (a :: b :: r)).length = (a ++ y).length + (Str.join y (b :: r)).length := Array.size_append
    have l2 : (a ++ y).length = a.length + y.length := Array.size_append
    rw [tot_cons]
    omega
theorem tot_join_le {y : Str} (h : y.length = 1) (parts : List Str) : (Txt.join y parts).length ≤ tot parts := by
  rw [TL.join_eq]
  cases parts with
  | nil => exact Nat.zero_le _
  | cons a r =>
    have := tot_join h (a :: r) (by simp)
    omega
theorem tot_split {y : Str} (h : y.length = 1) (t : Str) : tot (Txt.split t y) ≤ t.length + 1 := by
  by_cases e : Txt.split t y = []
  · rw [e]
    exact Nat.zero_le _
  · have := tot_join h _ e
    rw [StrLaws.join_split] at this
    omega
theorem tot_at : ∀ {ls : List Str} {i : Nat} {x : Str}, ls[i]? = some x → x.length + 1 ≤ tot ls
  | [], _, _, h => by simp at h
  | a :: r, 0, x, h => by
    cases h
    rw [tot_cons]
    omega
  | a :: r, i + 1, x, h => by
    have := tot_at (ls := r) (i := i) (by simpa using h)
    rw [tot_cons]
    omega
theorem tot_ins (ls : List Str) (k : Nat) (x : Str) : tot (ls.take k ++ [x] ++ ls.drop k) = tot ls + (x.length + 1) := by
  have h : tot (ls.take k) + tot (ls.drop k) = tot ls := by rw [← tot_app, List.take_append_drop]
  have h2 : tot [x] = x.length + 1 := rfl
  rw [tot_app, tot_app, h2]
  omega
theorem tot_erase : ∀ (ls : List Str) (k : Nat), tot (ls.eraseIdx k) ≤ tot ls
  | [], _ => Nat.le_refl _
  | a :: r, 0 => by
    show tot r ≤ _
    rw [tot_cons]
    omega
  | a :: r, k + 1 => by
    have := tot_erase r k
    show tot (a :: r.eraseIdx k) ≤ _
    rw [tot_cons, tot_cons]
    omega
theorem tot_set : ∀ {ls : List Str} {k : Nat} {x : Str} (y : Str), ls[k]? = some x → tot (ls.set k y) + x.length = tot ls + y.length
  | [], _, _, _, h => by simp at h
  | a :: r, 0, x, y, h => by
    cases h
    show tot (y :: r) + _ = _
    rw [tot_cons, tot_cons]
    omega
  | a :: r, k + 1, x, y, h => by
    have := tot_set (ls := r) (k := k) (x := x) y (by simpa using h)
    show tot (a :: r.set k y) + _ = _
    rw [tot_cons, tot_cons]
    omega
theorem rep_len {x y z : Str} (h1 : y.length = 1) (h2 : z.length = 2) : (Txt.replace x y z).length ≤ 2 * x.length + 2 := by
  unfold Txt.replace
  split
  · omega
  · have hy : (Builtin.Str.glued y (Builtin.Str.partsBetween x (Builtin.Str.occurrences x y 0 x.length (x.length + 1)) y.length)).length = x.length := by rw [StrLaws.glued_between_self]
    have e1 : ∀ n : Nat, n * y.length = n := fun n => by rw [h1, Nat.mul_one]
    have e2 : ∀ n : Nat, n * z.length = 2 * n := fun n => by rw [h2, Nat.mul_comm]
    rw [size_glued, length_partsBetween, Nat.add_sub_cancel, e1] at hy
    rw [size_glued, length_partsBetween, Nat.add_sub_cancel, e2]
    omega
theorem at_some {α : Type} {xs : List α} {g : Int} (h0 : 0 ≤ g) (h1 : g < xs.length) : ∃ c, xs[g.toNat]? = some c ∧ atI xs g = some c := by
  have hi : g.toNat < xs.length := by omega
  refine ⟨xs[g.toNat], List.getElem?_eq_getElem hi, ?_⟩
  have e : g = ((g.toNat : Nat) : Int) := by omega
  conv => lhs; rw [e]
  exact atI_nat (List.getElem?_eq_getElem hi)
theorem str_some {ls : List Str} {g : Int} (h0 : 0 ≤ g) (h1 : g < ls.length) : ∃ x, ls[g.toNat]? = some x ∧ atI (ls.map V.str) g = some (.str x) ∧ x.length + 1 ≤ tot ls ∧ ixN (ls.map V.str).length g = some g.toNat ∧ (ls.map V.str)[g.toNat]? = some (.str x) ∧ seqIndex? g (ls.map V.str).length = some g.toNat := by
  have hi : g.toNat < ls.length := by omega
  have hx := List.getElem?_eq_getElem hi
  have e : g = ((g.toNat : Nat) : Int) := by omega
  have hv : (ls.map V.str)[g.toNat]? = some (.str ls[g.toNat]) := by rw [List.getElem?_map, hx]; rfl
  have hn : ixN (ls.map V.str).length g = some g.toNat := by
    rw [List.length_map]
    unfold ixN
    rw [if_pos h0, if_pos h1]
  refine ⟨ls[g.toNat], hx, ?_, tot_at hx, hn, hv, (ixN_seq hn).1⟩
  unfold atI
  rw [hn]
  exact hv
theorem ins_map (ls : List Str) (k : Nat) (x : Str) : (ls.map V.str).take k ++ [V.str x] ++ (ls.map V.str).drop k = (ls.take k ++ [x] ++ ls.drop k).map V.str := by
  simp only [List.map_append, List.map_take, List.map_drop, List.map_cons, List.map_nil]
theorem erase_map : ∀ (ls : List Str) (k : Nat), (ls.map V.str).eraseIdx k = (ls.eraseIdx k).map V.str
  | [], _ => rfl
  | _ :: _, 0 => rfl
  | a :: r, k + 1 => congrArg (V.str a :: ·) (erase_map r k)
theorem set_map (ls : List Str) (k : Nat) (x : Str) : (ls.map V.str).set k (V.str x) = (ls.set k x).map V.str := by
  rw [List.map_set]
def L22 : List Str := ["row", "ring", "one a -> b when", "two a -> b", "call a -> b", "begin a", "bad a", "letters a", "end", "one", "one a -> a", "two aa -> aa", "one a -> a when all left in a", "one a -> a when some others in a", "two a -> b when all left in a", "two a -> b by ab", "one a -> b by ab", "call a -> b when all left in a", "one a -> a when left all in a", "one a -> a when all all in a", "one a -> a when right some in a", "letters abcdef"]
theorem cnt_nn (c : Nat) : ∀ l : List Nat, 0 ≤ PyProof.Rows.cnt c l
  | [] => Int.le_refl _
  | n :: r => by
    have := cnt_nn c r
    rw [PyProof.Rows.cnt_cons]
    split <;> omega
theorem L22_short : ∀ y ∈ L22, y.length ≤ 40 := by decide +kernel
section
variable {P : Program} {w : World} {K : PySem.W.Frag} {mg : Str → Option Value} {base : Heap}
def sp_every : Sp := fun vs H Q _ => vs = [] ∧ ∀ t : Str, 94 ≤ t.length → t.length ≤ 1000 → Q (.str t) H
theorem ok_law_every (T : TX K mg) : FnOk P w K mg base CX0 1 T.a_law_every T.fd_law_every [] sp_every := by
  refine T.F_law_every.ok sc_law_every (fun vs H Q E h => ?_) (fun cdv A outer s H vs Q E hr h => ?_)
  · obtain ⟨rfl, _⟩ := h
    rfl
  · obtain ⟨rfl, q⟩ := h
    refine ⟨_, (pss_cons (ps_set (i := 0) sc_law_every.nd rfl (Or.inl rfl) pe_str)
      (pss_one (ps_ret (pe_op op_add_str (pv 0) pe_str)))), ?_⟩
    refine ⟨_, rfl, _, _, rfl, rfl, fit2 (by decide +kernel), ?_⟩
    exact q _ (by decide +kernel) (by decide +kernel)
def sp_bent : Sp := fun vs H Q _ => ∃ (r : Addr) (text : Str), vs = [.ref r, .str text] ∧ RowAt H r ∧ text.length ≤ 470 ∧ ∀ H' t, Off r H H' → RowAt H' r → t.length ≤ 1000 → Q (.str t) H'
theorem ok_law_bent (T : TX K mg) : FnOk P w K mg base CX0 2 T.a_law_bent T.fd_law_bent ["well", "text"] sp_bent := by
  have G_law_draw : FnOk P w K mg base CX0 1 T.a_law_draw T.fd_law_draw ["well", "many"] sp_law_draw := ok_law_draw T
  have G_law_every : FnOk P w K mg base CX0 1 T.a_law_every T.fd_law_every [] sp_every := ok_law_every T
  refine T.F_law_bent.ok sc_law_bent (fun vs H Q E h => ?_) (fun cdv A outer s H vs Q E hr h => ?_)
  · obtain ⟨r, text, rfl, _⟩ := h
    rfl
  · obtain ⟨r, text, rfl, hR, hl, q⟩ := h
    refine ⟨_, (pss_cons (ps_set (i := 2) sc_law_bent.nd rfl (Or.inl rfl) (pe_call G_law_draw (hr.mono (by decide)) (by rfl) T.g_law_draw T.F_law_draw.kp T.b_law_draw .nil pass0 (pa_cons (pv 0) (pa_cons (pe_op op_add (pe_callB call_len_str (by rfl) T.m_len (by decide +kernel) (pa_cons (pv 1) pa_nil)) pe_int) pa_nil))))
      (pss_str (i := 3) sc_law_bent.nd rfl (Or.inl rfl)
      (psst_cons (PST.of (ps_set (i := 4) sc_law_bent.nd rfl (Or.inl rfl) (pe_ix (ix_listK K rfl) (pe_lst (pa_cons (pe_ix ix_str (pv 3) (pe_call G_law_draw (hr.mono (by decide)) (by rfl) T.g_law_draw T.F_law_draw.kp T.b_law_draw .nil pass0 (pa_cons (pv 0) (pa_cons pe_int pa_nil))) (fun _ _ => rfl)) (pa_cons (pe_ix ix_str (pe_call0 G_law_every (hr.mono (by decide)) (by rfl) T.g_law_every T.F_law_every.kp T.b_law_every .nil pass0) (pe_call G_law_draw (hr.mono (by decide)) (by rfl) T.g_law_draw T.F_law_draw.kp T.b_law_draw .nil pass0 (pa_cons (pv 0) (pa_cons pe_int pa_nil))) (fun _ _ => rfl)) pa_nil))) (pe_call G_law_draw (hr.mono (by decide)) (by rfl) T.g_law_draw T.F_law_draw.kp T.b_law_draw .nil pass0 (pa_cons (pv 0) (pa_cons pe_int pa_nil))) (fun _ _ => rfl))))
        (psst_cons (PST.of (ps_set (i := 5) sc_law_bent.nd rfl (Or.inl rfl) (pe_split (pv 1) pe_str)))
        (psst_cons (PST.of (ps_set (i := 6) sc_law_bent.nd rfl (Or.inl rfl) (pe_call G_law_draw (hr.mono (by decide)) (by rfl) T.g_law_draw T.F_law_draw.kp T.b_law_draw .nil pass0 (pa_cons (pv 0) (pa_cons (pe_callB (call_lenK K rfl) (by rfl) T.m_len (by decide +kernel) (pa_cons (pv 5) pa_nil)) pa_nil)))))
        (psst_cons (PST.of (ps_set (i := 7) sc_law_bent.nd rfl (Or.inl rfl) (pe_call G_law_draw (hr.mono (by decide)) (by rfl) T.g_law_draw T.F_law_draw.kp T.b_law_draw .nil pass0 (pa_cons (pv 0) (pa_cons (pe_callB (call_lenK K rfl) (by rfl) T.m_len (by decide +kernel) (pa_cons (pv 5) pa_nil)) pa_nil)))))
        (psst_cons (PST.of (ps_set (i := 8) sc_law_bent.nd rfl (Or.inl rfl) (pe_call G_law_draw (hr.mono (by decide)) (by rfl) T.g_law_draw T.F_law_draw.kp T.b_law_draw .nil pass0 (pa_cons (pv 0) (pa_cons pe_int pa_nil)))))
        (psst_cons (PST.of (ps_if (pt_cmpR op_eq (pv 8) pe_int (nomark _))
          (pss_one (ps_ret (pe_op op_add_str (pe_op op_add_str (pe_slice sl_str (pv 1) po_none (po_some (pv 2))) (pv 4)) (pe_slice sl_str (pv 1) (po_some (pv 2)) po_none))))
          pss_nil))
        (psst_cons (PST.of (ps_if (pt_cmpR op_eq (pv 8) pe_int (nomark _))
          (pss_one (ps_ret (pe_op op_add_str (pe_slice sl_str (pv 1) po_none (po_some (pv 2))) (pe_slice sl_str (pv 1) (po_some (pe_op op_add (pv 2) pe_int)) po_none))))
          pss_nil))
        (psst_cons (PST.of (ps_if (pt_cmpR op_eq (pv 8) pe_int (nomark _))
          (pss_one (ps_ret (pe_op op_add_str (pe_op op_add_str (pe_slice sl_str (pv 1) po_none (po_some (pv 2))) (pv 4)) (pe_slice sl_str (pv 1) (po_some (pe_op op_add (pv 2) pe_int)) po_none))))
          pss_nil))
        (LH.psst_cut (LH.pst_if (pt_cmpR op_eq (pv 8) pe_int (nomark _))
          (PSsT.of (pss_one (ps_expr (pe_bmK K rfl PySem.F.plainAttrs_list PySem.F.slot_list_insert PySem.F.type_list_insert mt_insert (pv 5) (pa_cons (pv 7) (pa_cons (pe_ix (ix_listK K rfl) (pv 5) (pv 6) (fun _ _ => rfl)) pa_nil))))))
          (LH.psst_one (LH.pst_if (pt_cmpR op_eq (pv 8) pe_int (nomark _))
              (PSsT.of (pss_one (ps_expr (pe_bmK K rfl PySem.F.plainAttrs_list PySem.F.slot_list_pop PySem.F.type_list_pop mt_popAt (pv 5) (pa_cons (pv 6) pa_nil)))))
              (LH.psst_one (LH.pst_if (pt_cmpR op_eq (pv 8) pe_int (nomark _))
                  (PSsT.of (pss_one (ps_asg (pe_tup (pa_cons (pe_ix (ix_listK K rfl) (pv 5) (pv 7) (fun _ _ => rfl)) (pa_cons (pe_ix (ix_listK K rfl) (pv 5) (pv 6) (fun _ _ => rfl)) pa_nil))) (pg_tupK (n := 2) K rfl (by rfl) (pgs_cons (pg_sub (pv 5) (pv 6) set_list) (pgs_cons (pg_sub (pv 5) (pv 7) set_list) pgs_nil))))))
                  (LH.psst_one (LH.pst_if (pt_cmpR op_eq (pv 8) pe_int (nomark _))
                      (LH.psst_one (LH.pst_asg (LH.pet_ix (ix_listK K rfl) (pet_lst (pat_cons (LH.pet_of (pe_op op_add_str (pe_ix (ix_listK K rfl) (pv 5) (pv 6) (fun _ _ => rfl)) pe_str)) (pat_cons (LH.pet_of (pe_op op_add_str pe_str (pe_ix (ix_listK K rfl) (pv 5) (pv 6) (fun _ _ => rfl)))) (pat_cons (LH.pet_replC (pe_ix (ix_listK K rfl) (pv 5) (pv 6) (fun _ _ => rfl)) (by decide +kernel)) (pat_cons (LH.pet_of pe_str) pat_nil))))) (pe_call G_law_draw (hr.mono (by decide)) (by rfl) T.g_law_draw T.F_law_draw.kp T.b_law_draw .nil pass0 (pa_cons (pv 0) (pa_cons pe_int pa_nil))) (fun _ _ => rfl)) (pg_sub (pv 5) (pv 6) set_list)))
                      (PSsT.of (pss_one (ps_if (pt_cmpR op_eq (pv 8) pe_int (nomark _))
                          (pss_cons (ps_set (i := 9) sc_law_bent.nd rfl (Or.inl rfl) (pe_lst (pa_cons pe_str (pa_cons pe_str (pa_cons pe_str (pa_cons pe_str (pa_cons pe_str (pa_cons pe_str (pa_cons pe_str (pa_cons pe_str (pa_cons pe_str pa_nil)))))))))))
                            (pss_cons (ps_set (i := 9) sc_law_bent.nd rfl (Or.inl rfl) (pe_op op_cat (pv 9) (pe_lst (pa_cons pe_str (pa_cons pe_str (pa_cons pe_str (pa_cons pe_str pa_nil)))))))
                            (pss_cons (ps_set (i := 9) sc_law_bent.nd rfl (Or.inl rfl) (pe_op op_cat (pv 9) (pe_lst (pa_cons pe_str (pa_cons pe_str (pa_cons pe_str pa_nil))))))
                            (pss_cons (ps_set (i := 9) sc_law_bent.nd rfl (Or.inl rfl) (pe_op op_cat (pv 9) (pe_lst (pa_cons pe_str (pa_cons pe_str (pa_cons pe_str pa_nil))))))
                            (pss_cons (ps_set (i := 9) sc_law_bent.nd rfl (Or.inl rfl) (pe_op op_cat (pv 9) (pe_lst (pa_cons pe_str (pa_cons pe_str (pa_cons pe_str pa_nil))))))
                            (pss_one (ps_asg (pe_ix (ix_listK K rfl) (pv 9) (pe_call G_law_draw (hr.mono (by decide)) (by rfl) T.g_law_draw T.F_law_draw.kp T.b_law_draw .nil pass0 (pa_cons (pv 0) (pa_cons pe_int pa_nil))) (fun _ _ => rfl)) (pg_sub (pv 5) (pv 6) set_list))))))))
                          pss_nil))))))))))
        (LH.psst_one (PST.of (ps_ret (pe_m1 PySem.F.slot_str_join PySem.F.type_str_join (mt_joinK K rfl) pe_str (pv 5)))))))))))))))), ?_⟩
    have nl1 : (Str.ofString "\n").length = 1 := by decide +kernel
    refine ⟨.ref r, rfl, .str text, rfl, text, rfl, Nat.le_trans hl (by decide), _, _, rfl, rfl, r, _, rfl, hR, by omega, by omega, fun H1 at_ o1 R1 a0 a1 => ?_⟩
    refine ⟨_, rfl, .ref r, rfl, r, 17, rfl, R1, by decide, by decide, fun H2 g2 o2 R2 b0 b1 => ?_⟩
    obtain ⟨c1, _, ec1⟩ := at_some (xs := (Str.ofString "abcx .|[]*+->\n\nA1").cps.toList) b0 (by rw [show (Str.ofString "abcx .|[]*+->\n\nA1").cps.toList.length = 17 by decide +kernel]; exact b1)
    refine ⟨_, g2, c1, rfl, rfl, by decide +kernel, ec1, ?_⟩
    refine ⟨rfl, fun ev e1 e2 => ?_⟩
    refine ⟨.ref r, rfl, r, 94, rfl, R2, by decide, by decide, fun H3 g3 o3 R3 d0 d1 => ?_⟩
    obtain ⟨c2, _, ec2⟩ := at_some (xs := ev.cps.toList) d0 (by rw [Array.length_toList]; have : ev.cps.size = ev.length := rfl; omega)
    refine ⟨ev, g3, c2, rfl, rfl, Nat.le_trans e2 (by decide), ec2, ?_⟩
    refine ⟨by show 2 ≤ sizeLine; decide, fun p4 n4 => ?_⟩
    refine ⟨.ref r, rfl, r, 2, rfl, R3.new n4, by decide, by decide, fun H5 g5 o5 R5 f0 f1 => ?_⟩
    have e5 := o5 _ _ (R3.ne n4).symm (upd_same (H := H3) (a := p4) (o := .lst [.str (sg c1), .str (sg c2)]))
    obtain ⟨c, ec⟩ : ∃ c, atI [V.str (sg c1), V.str (sg c2)] g5 = some (.str (sg c)) := by
      have : g5 = 0 ∨ g5 = 1 := by omega
      rcases this with rfl | rfl
      · exact ⟨c1, rfl⟩
      · exact ⟨c2, rfl⟩
    refine ⟨p4, _, g5, .str (sg c), rfl, rfl, .inl (.inl e5), ec, ?_⟩
    have off5 : Off r H H5 := ((o1.trans o2).trans o3).trans ((Off.new n4).trans o5)
    have many : (Txt.split text (Str.ofString "\n")).length ≤ text.length + 2 := PyProof.Rows.split_le text _
    refine ⟨.str text, rfl, ⟨_, rfl⟩, text, _, rfl, rfl, by decide +kernel, Nat.le_trans (show text.length + 2 ≤ 20000 by omega) (by decide), fun l nl => ?_⟩
    have fl : H l = none := off5.free (R5.ne nl) nl
    have rl : l ≠ r := (R5.ne nl).symm
    have R6 := R5.new (o := .lst ((Txt.split text (Str.ofString "\n")).map V.str)) nl
    have el : (upd H5 l (.lst ((Txt.split text (Str.ofString "\n")).map V.str))) l = some (.lst ((Txt.split text (Str.ofString "\n")).map V.str)) := upd_same
    have off6 : Off r H (upd H5 l (.lst ((Txt.split text (Str.ofString "\n")).map V.str))) := off5.trans (Off.new nl)
    have tl := tot_split nl1 text
    have many0 : 1 ≤ (Txt.split text (Str.ofString "\n")).length := by
      have h := PyProof.Rows.split_len text 10
      have e : (⟨#[10]⟩ : Str) = Str.ofString "\n" := by decide +kernel
      rw [e] at h
      have h2 := cnt_nn 10 text.cps.toList
      omega
    generalize Txt.split text (Str.ofString "\n") = ls at el off6 R6 many many0 tl
    generalize upd H5 l (.lst (ls.map V.str)) = H6 at el off6 R6
    have lv : (ls.map V.str).length = ls.length := List.length_map _
    refine ⟨.ref r, rfl, .ref l, rfl, l, _, rfl, .inl (.inl (.inl el)), r, _, rfl, R6, by omega, by omega, fun H7 one o7 R7 p0 p1 => ?_⟩
    have el7 := o7 _ _ rl el
    refine ⟨.ref r, rfl, .ref l, rfl, l, _, rfl, .inl (.inl (.inl el7)), r, _, rfl, R7, by omega, by omega, fun H8 other o8 R8 q0 q1 => ?_⟩
    refine ⟨.ref r, rfl, r, 9, rfl, R8, by decide, by decide, fun H9 kd o9 R9 _ _ => ?_⟩
    have el9 := o9 _ _ rl (o8 _ _ rl el7)
    have off9 := ((off6.trans o7).trans o8).trans o9
    rw [lv] at p1 q1
    obtain ⟨x1, hx1, ex1, sx1, ix1, vx1, qx1⟩ := str_some p0 p1
    obtain ⟨x2, hx2, ex2, sx2, ix2, vx2, qx2⟩ := str_some q0 q1
    have tsz : text.length ≤ sizeLine := Nat.le_trans hl (by decide)
    have cl : ∀ lo hi, (cutS text lo hi).length ≤ text.length := cutS_length text
    have sg1 : (sg c).length = 1 := rfl
    refine ⟨.int kd, rfl, rfl, _, rfl, ite2 (fun k0 => ?_) (fun k0 => ?_)⟩
    · have h1 := cl none (some at_)
      have h2 := cl (some at_) none
      refine ⟨.str text, rfl, .int at_, rfl, at_, rfl, text, rfl, tsz, .str (sg c), rfl, _, _, rfl, rfl, fit2 (by omega), ?_⟩
      refine ⟨.str text, rfl, .int at_, rfl, at_, rfl, ?_⟩
      refine noPart ?_
      refine ⟨text, rfl, tsz, _, _, rfl, rfl, fit2 (by rw [sl_app]; omega), q _ _ off9 R9 (by rw [sl_app, sl_app]; omega)⟩
    refine ⟨.int kd, rfl, rfl, _, rfl, ite2 (fun k1 => ?_) (fun k1 => ?_)⟩
    · have h1 := cl none (some at_)
      have h2 := cl (some (at_ + 1)) none
      refine ⟨.str text, rfl, .int at_, rfl, at_, rfl, text, rfl, tsz, ?_⟩
      refine ⟨.str text, rfl, .int at_, rfl, _, _, rfl, rfl, _, rfl, ?_⟩
      refine noPart ?_
      refine ⟨text, rfl, tsz, _, _, rfl, rfl, fit2 (by omega), q _ _ off9 R9 (by rw [sl_app]; omega)⟩
    refine ⟨.int kd, rfl, rfl, _, rfl, ite2 (fun k2 => ?_) (fun k2 => ?_)⟩
    · have h1 := cl none (some at_)
      have h2 := cl (some (at_ + 1)) none
      refine ⟨.str text, rfl, .int at_, rfl, at_, rfl, text, rfl, tsz, .str (sg c), rfl, _, _, rfl, rfl, fit2 (by omega), ?_⟩
      refine ⟨.str text, rfl, .int at_, rfl, _, _, rfl, rfl, _, rfl, ?_⟩
      refine noPart ?_
      refine ⟨text, rfl, tsz, _, _, rfl, rfl, fit2 (by rw [sl_app]; omega), q _ _ off9 R9 (by rw [sl_app, sl_app]; omega)⟩
    refine ⟨fun σ' H' => Off r H H' ∧ RowAt H' r ∧ ∃ (ls2 : List Str) (y9 : Option V), H' l = some (.lst (ls2.map V.str)) ∧ tot ls2 ≤ 1000 ∧ σ' = [some (.ref r), some (.str text), some (.int at_), some (.str (Str.ofString "abcx .|[]*+->\n\nA1")), some (.str (sg c)), some (.ref l), some (.int one), some (.int other), some (.int kd), y9], ?_, fun σ' H' hM => ?_⟩
    · refine ⟨.int kd, rfl, rfl, _, rfl, ite2 (fun k3 => ?_) (fun k3 => ?_)⟩
      · refine ⟨.ref l, rfl, .inl ⟨rfl, _, .inl (.inl el9)⟩, .int other, rfl, .ref l, rfl, .int one, rfl, l, _, one, .str x1, rfl, rfl, .inl (.inl el9), ex1, ?_⟩
        refine ⟨l, _, other, .str x1, rfl, rfl, el9, by rw [lv]; exact fit6 (by omega), q0, by omega, ?_⟩
        refine ⟨off9.mut fl, R9.upd rl.symm, ls.take other.toNat ++ [x1] ++ ls.drop other.toNat, _, by rw [upd_same, ins_map], by rw [tot_ins]; omega, rfl⟩
      refine ⟨.int kd, rfl, rfl, _, rfl, ite2 (fun k4 => ?_) (fun k4 => ?_)⟩
      · refine ⟨.ref l, rfl, .inl ⟨rfl, _, .inl (.inl el9)⟩, .int one, rfl, l, _, one, one.toNat, .str x1, rfl, rfl, el9, by omega, by omega, qx1, vx1, ?_⟩
        refine ⟨off9.mut fl, R9.upd rl.symm, ls.eraseIdx one.toNat, _, by rw [upd_same, erase_map], Nat.le_trans (tot_erase _ _) (by omega), rfl⟩
      refine ⟨.int kd, rfl, rfl, _, rfl, ite2 (fun k5 => ?_) (fun k5 => ?_)⟩
      · refine ⟨.ref l, rfl, .int other, rfl, l, _, other, .str x2, rfl, rfl, .inl (.inl el9), ex2, .ref l, rfl, .int one, rfl, l, _, one, .str x1, rfl, rfl, .inl (.inl el9), ex1, by show 2 ≤ sizeLine; decide, fun p np => ?_⟩
        have el10 := (same_new (o := .tup [.str x2, .str x1]) np) _ _ el9
        have pl : p ≠ l := (ne_of_none el9 np).symm
        refine ⟨p, _, rfl, .inl (.inl upd_same), rfl, .str x2, _, rfl, ?_⟩
        refine ⟨.ref l, rfl, .int one, rfl, l, _, one, one.toNat, rfl, rfl, el10, ix1, ?_⟩
        rw [set_map]
        have lx : (ls.set one.toNat x2).length = ls.length := List.length_set
        have ix3 : ixN ((ls.set one.toNat x2).map V.str).length other = some other.toNat := by
          rw [List.length_map, lx, ← lv]
          exact ix2
        refine ⟨.str x1, _, rfl, .ref l, rfl, .int other, rfl, l, _, other, other.toNat, rfl, rfl, upd_same, ix3, rfl, ?_⟩
        rw [set_map]
        refine ⟨(((off9.trans (Off.new np)).mut fl).mut fl), ((R9.new np).upd rl.symm).upd rl.symm, (ls.set one.toNat x2).set other.toNat x1, _, upd_same, ?_, rfl⟩
        have h1 := tot_set x2 hx1
        obtain ⟨x3, hx3, e3⟩ : ∃ x3, (ls.set one.toNat x2)[other.toNat]? = some x3 ∧ x3 = x2 := by
          rw [List.getElem?_set]
          split
          · rename_i h
            rw [if_pos (by omega)]
            exact ⟨x2, rfl, rfl⟩
          · exact ⟨x2, hx2, rfl⟩
        subst e3
        have h2 := tot_set x1 hx3
        omega
      refine ⟨.int kd, rfl, rfl, _, rfl, ite2 (fun k6 => ?_) (fun k6 => ?_)⟩
      · have rb := rep_len (x := x1) (y := Str.ofString " ") (z := Str.ofString "  ") (by decide +kernel) (by decide +kernel)
        have b1 : (Str.ofString " ").length = 1 := by decide +kernel
        have b2 : (Str.ofString "  ").length = 2 := by decide +kernel
        have b0 : (Str.ofString "").length = 0 := by decide +kernel
        refine ⟨.ref l, rfl, .int one, rfl, l, _, one, .str x1, rfl, rfl, .inl (.inl el9), ex1, _, _, rfl, rfl, fit2 (by omega), ?_⟩
        refine ⟨.ref l, rfl, .int one, rfl, l, _, one, .str x1, rfl, rfl, .inl (.inl el9), ex1, _, _, rfl, rfl, fit2 (by omega), ?_⟩
        refine ⟨.ref l, rfl, .int one, rfl, l, _, one, .str x1, rfl, rfl, .inl (.inl el9), ex1, x1, rfl, by rw [b2]; omega, ?_⟩
        refine ⟨by show 4 ≤ sizeLine; decide, fun p np => ?_⟩
        refine ⟨.ref r, rfl, r, 4, rfl, R9.new np, by decide, by decide, fun H10 g10 o10 R10 z0 z1 => ?_⟩
        have el10 := o10 _ _ rl ((same_new (o := .lst [.str (x1 ++ Str.ofString " "), .str (Str.ofString " " ++ x1), .str (Txt.replace x1 (Str.ofString " ") (Str.ofString "  ")), .str (Str.ofString "")]) np) _ _ el9)
        have ep := o10 _ _ (R9.ne np).symm (upd_same (H := H9) (a := p) (o := .lst [.str (x1 ++ Str.ofString " "), .str (Str.ofString " " ++ x1), .str (Txt.replace x1 (Str.ofString " ") (Str.ofString "  ")), .str (Str.ofString "")]))
        obtain ⟨y, ey, yl⟩ : ∃ y : Str, atI [V.str (x1 ++ Str.ofString " "), V.str (Str.ofString " " ++ x1), V.str (Txt.replace x1 (Str.ofString " ") (Str.ofString "  ")), V.str (Str.ofString "")] g10 = some (.str y) ∧ y.length ≤ 2 * x1.length + 2 := by
          have : g10 = 0 ∨ g10 = 1 ∨ g10 = 2 ∨ g10 = 3 := by omega
          rcases this with rfl | rfl | rfl | rfl
          · exact ⟨_, rfl, by rw [sl_app]; omega⟩
          · exact ⟨_, rfl, by rw [sl_app]; omega⟩
          · exact ⟨_, rfl, rb⟩
          · exact ⟨_, rfl, by omega⟩
        refine ⟨p, _, g10, .str y, rfl, rfl, .inl (.inl ep), ey, ?_⟩
        refine ⟨.ref l, rfl, .int one, rfl, l, _, one, one.toNat, rfl, rfl, el10, ix1, ?_⟩
        rw [set_map]
        have h1 := tot_set y hx1
        exact ⟨(off9.trans ((Off.new np).trans o10)).mut fl, R10.upd rl.symm, ls.set one.toNat y, _, upd_same, by omega, rfl⟩
      refine ⟨.int kd, rfl, rfl, _, rfl, ite2 (fun k7 => ?_) (fun k7 => ?_)⟩
      · refine ⟨by show 9 ≤ sizeLine; decide, fun a1 m1 => ?_⟩
        refine ⟨.ref a1, rfl, by show 4 ≤ sizeLine; decide, fun b1 w1 => ?_⟩
        refine ⟨a1, b1, _, _, rfl, rfl, (same_new w1) _ _ upd_same, upd_same, by show 13 ≤ sizeLine; decide, fun a2 m2 => ?_⟩
        refine ⟨.ref a2, rfl, by show 3 ≤ sizeLine; decide, fun b2 w2 => ?_⟩
        refine ⟨a2, b2, _, _, rfl, rfl, (same_new w2) _ _ upd_same, upd_same, by show 16 ≤ sizeLine; decide, fun a3 m3 => ?_⟩
        refine ⟨.ref a3, rfl, by show 3 ≤ sizeLine; decide, fun b3 w3 => ?_⟩
        refine ⟨a3, b3, _, _, rfl, rfl, (same_new w3) _ _ upd_same, upd_same, by show 19 ≤ sizeLine; decide, fun a4 m4 => ?_⟩
        refine ⟨.ref a4, rfl, by show 3 ≤ sizeLine; decide, fun b4 w4 => ?_⟩
        refine ⟨a4, b4, _, _, rfl, rfl, (same_new w4) _ _ upd_same, upd_same, by show 22 ≤ sizeLine; decide, fun a5 m5 => ?_⟩
        refine ⟨.ref a5, rfl, .ref r, rfl, r, 22, rfl, ((((((((R9.new m1).new w1).new m2).new w2).new m3).new w3).new m4).new w4).new m5, by decide, by decide, fun H10 g10 o10 R10 z0 z1 => ?_⟩
        have el10 : H10 l = some (.lst (ls.map V.str)) := o10 _ _ rl ((same_new m5) _ _ ((same_new w4) _ _ ((same_new m4) _ _ ((same_new w3) _ _ ((same_new m3) _ _ ((same_new w2) _ _ ((same_new m2) _ _ ((same_new w1) _ _ ((same_new m1) _ _ el9)))))))))
        have ep : H10 a5 = some (.lst (L22.map V.str)) := o10 _ _ (((((((((R9.new m1).new w1).new m2).new w2).new m3).new w3).new m4).new w4).ne m5).symm upd_same
        have l22 : (L22.length : Int) = 22 := rfl
        obtain ⟨y, hy, ey, _⟩ := str_some (ls := L22) z0 (by rw [l22]; exact z1)
        have yl := L22_short y (List.mem_of_getElem? hy)
        refine ⟨a5, _, g10, .str y, rfl, rfl, .inl (.inl ep), ey, ?_⟩
        refine ⟨.ref l, rfl, .int one, rfl, l, _, one, one.toNat, rfl, rfl, el10, ix1, ?_⟩
        rw [set_map]
        have h1 := tot_set y hx1
        have o9 := off9.trans ((Off.new m1).trans ((Off.new w1).trans ((Off.new m2).trans ((Off.new w2).trans ((Off.new m3).trans ((Off.new w3).trans ((Off.new m4).trans ((Off.new w4).trans ((Off.new m5).trans o10)))))))))
        exact ⟨o9.mut fl, R10.upd rl.symm, ls.set one.toNat y, _, upd_same, by omega, rfl⟩
      exact ⟨off9, R9, ls, _, el9, by omega, rfl⟩
    · obtain ⟨o10, R10, ls2, y9, e10, t10, rfl⟩ := hM
      refine ⟨⟨_, rfl⟩, .ref l, rfl, Str.ofString "\n", l, ls2, rfl, rfl, .inl (.inl (.inl e10)), ?_, q _ _ o10 R10 (Nat.le_trans (tot_join_le nl1 ls2) t10)⟩
      have h : ∀ zs : List Str, (zs.map (·.length)).sum + zs.length * 1 = tot zs := fun zs => by
        induction zs with
        | nil => rfl
        | cons a r ih =>
          rw [tot_cons, List.map_cons, List.sum_cons, List.length_cons]
          omega
      have := h ls2
      rw [nl1]
      omega
end
end LH

namespace LH
open PySem PySem.Spec PyProof.Rows L2 NdefX LamX LU
theorem nl_tot : ∀ ls : List Str, ((ls.map nl_).map (·.length)).sum = tot ls
  | [] => rfl
  | a :: r => by
    have ih := nl_tot r
    have h1 : (nl_ a).length = a.length + 1 := by
      unfold nl_
      rw [sl_app, sl9]
    rw [List.map_cons, List.map_cons, List.sum_cons, ih, h1, tot_cons]
theorem showR_len45 {R : Rul} {z sh : Str} (ok : R.Ok z sh) (hz : z.length ≤ 5) : (showR R).length ≤ 45 := by
  cases R with
  | two x y u v =>
    unfold showR
    simp only [sl_app, sl_sg, sl_empty, sl1, sl2]
    omega
  | call x y im =>
    have := ok.2.2.1
    unfold showR
    simp only [sl_app, sl_sg, sl_empty, sl2, sl3, sl4, tx_len', List.length_cons, List.length_nil]
    omega
  | one x y g =>
    cases g with
    | none =>
      unfold showR
      simp only [sl_app, sl_sg, sl_empty, sl2, sl5]
      omega
    | some G =>
      have gk := ok.2.2 G rfl
      have h1 := how_len gk
      have h2 := wh_len gk
      have h3 : G.sm.length ≤ 5 := by
        have := len_le_of_sub (ys := z.cps.toList) (gk.up.imp fun h => Nat.ne_of_lt h) gk.sm
        rw [Array.length_toList] at this
        exact Nat.le_trans this hz
      unfold showR
      simp only [sl_app, sl_sg, sl_empty, sl2, sl5, sl6, sl7, sl8, tx_len', List.length_cons, List.length_nil]
      omega
theorem tot_rules {z sh : Str} (hz : z.length ≤ 5) : ∀ {rs : List Rul}, (∀ R ∈ rs, R.Ok z sh) → tot (rs.map showR) ≤ rs.length * 46
  | [], _ => Nat.le_refl _
  | R :: r, h => by
    have h1 := showR_len45 (h R List.mem_cons_self) hz
    have h2 := tot_rules hz (rs := r) fun x hx => h x (List.mem_cons_of_mem _ hx)
    rw [List.map_cons, tot_cons, List.length_cons]
    omega
theorem textW_len {W : Wd} (ok : W.Ok) (lit : W.Lit) : (textW W).length ≤ 470 := by
  have h := join_lenY ⟨#[]⟩ (parts := (linesW W).map nl_)
  rw [nl_tot] at h
  have e0 : (⟨#[]⟩ : Str).length = 0 := rfl
  rw [e0, Nat.mul_zero] at h
  have h1 := tot_rules ok.let_.five ok.rs
  have h5 := ok.let_.five
  have h4 := sh_len ok
  have m8 := lit.many
  have hb := lit.b
  have hd := lit.d
  have e : tot (linesW W) = (8 + W.z.length + 1 + (W.sh.length + 1)) + tot (W.rs.map showR) + (6 + W.b.length + 1 + (4 + W.d.length + 1)) := by
    unfold linesW
    rw [tot_app, tot_app]
    have a1 : tot [("letters " : Str) ++ W.z, W.sh] = 8 + W.z.length + 1 + (W.sh.length + 1) := by
      rw [tot_cons, tot_cons, sl_app, sl10]
      rfl
    have a2 : tot [("begin " : Str) ++ W.b, ("bad " : Str) ++ W.d] = 6 + W.b.length + 1 + (4 + W.d.length + 1) := by
      rw [tot_cons, tot_cons, sl_app, sl11, sl_app, sl12]
      rfl
    rw [a1, a2]
  show (Txt.join ⟨#[]⟩ ((linesW W).map nl_)).length ≤ 470
  omega
theorem Wd.Lit.sm {W : Wd} (l : W.Lit) : W.Sm := ⟨by have := l.many; omega, by have := l.b; omega, by have := l.d; omega⟩
theorem short_R {z sh : Str} (hz : z.length ≤ 5) {R : Rul} (ok : R.Ok z sh) : (toRR R).short := by
  have s1 : ∀ c, (sg c).length ≤ 1000 := fun c => by rw [sl_sg]; decide
  cases R with
  | two => trivial
  | call x y im => exact ⟨s1 x, s1 y, by rw [tJ_len]; have := ok.2.2.1; omega⟩
  | one x y g =>
    cases g with
    | none => exact ⟨s1 x, s1 y⟩
    | some G =>
      have gk := ok.2.2 G rfl
      exact ⟨s1 x, s1 y, Nat.le_trans (how_len gk) (by decide), Nat.le_trans (wh_len gk) (by decide), by rw [tJ_len]; have := gk.one.2; omega⟩
theorem short_W {W : Wd} (ok : W.Ok) (lit : W.Lit) : (toRW W).Short := by
  refine ⟨Nat.le_trans ok.let_.five (by decide), Nat.le_trans (sh_len ok) (by decide), ?_, fun R hR => ?_, Nat.le_trans lit.b (by decide), Nat.le_trans lit.d (by decide)⟩
  · show (W.rs.map toRR).length ≤ 2000
    rw [List.length_map]
    exact Nat.le_trans lit.many (by decide)
  · obtain ⟨R', h1, rfl⟩ := List.mem_map.mp hR
    exact short_R ok.let_.five (ok.rs R' h1)
theorem RowAt.extN {r : Addr} {H H' : Hp} (x : ExtN H H') (R : RowAt H r) : RowAt H' r := by
  obtain ⟨a, b, e, h⟩ := R
  exact ⟨a, b, lstN x e, h⟩
theorem tabs_row {T : List NTab} {H H' : Hp} {r : Addr} (R : RowAt H r) (t : TabsN T H) (o : Off r H H') : TabsN T H' := by
  obtain ⟨_, _, e, _⟩ := R
  exact tabs_off t e o
section
variable {P : Program} {w : World} {K : PySem.W.Frag} {mg : Str → Option Value} {base : Heap}
def sp_back (tabs : List NTab) : Sp := fun vs H Q _ => ∃ t : Str, vs = [.str t] ∧ t.length ≤ 1000 ∧ TabsN tabs H ∧ (∀ V H' a, V.Ok → textW V = t → ExtN H H' → TabsN tabs H' → WdAt H' a V → Q (.ref a) H') ∧ (∀ H', ExtN H H' → TabsN tabs H' → Q .non H')
theorem ok_law_back (T : TX K mg) {tabs : List NTab} (G_machine_of : FnOk P w K mg base (L2.CX P w) 7 T.a_machine_of T.fd_machine_of ["letters", "pattern"] (sp_machineZ tabs T.A_NoPattern)) : FnOk P w K mg base CX0 11 T.a_law_back T.fd_law_back ["text"] (sp_back tabs) := by
  have G_read_world := ok_read_world T G_machine_of
  refine T.F_law_back.ok sc_law_back (fun vs H Q E h => ?_) (fun cdv A outer s H vs Q E hr h => ?_)
  · obtain ⟨t, rfl, _⟩ := h
    rfl
  · obtain ⟨t, rfl, hl, tb, q, qn⟩ := h
    refine ⟨_, (pss_cons (ps_set (i := 1) sc_law_back.nd rfl (Or.inl rfl) pe_non)
      (pss_cons (ps_try_only rfl rfl ⟨rfl, by decide, .inl T.x_NoWorld⟩ LamX.takes0 (fun W_ pn_ xe_ tk_ _ =>
        (pss_one (ps_set (i := 1) sc_law_back.nd rfl (Or.inl rfl) (pe_callS G_read_world (hr.mono (by decide)) (by rfl) T.g_read_world T.F_read_world.kp T.b_read_world (fun σ => passAt tk_ σ) (pa_cons (pv 0) pa_nil))))) (fun _ _ _ _ _ _ _ =>
        (pss_one (ps_set (i := 1) sc_law_back.nd rfl (Or.inl rfl) pe_non))))
      (pss_one (ps_ret (pv 1))))), ?_⟩
    have exm := PySem.W.exm_ref T.c1_NoWorld_NoWorld T.c2_NoWorld_NoWorld T.c3_NoWorld_NoWorld T.c4_NoWorld_NoWorld
    refine ⟨.str t, rfl, t, rfl, hl, tb, fun V H1 a _ ok ht x1 t1 wa => ?_, fun H1 x1 t1 _ => ⟨true, exm, fun _ e he => ?_, fun h => nomatch h⟩⟩
    · exact ⟨.ref a, rfl, q V H1 a ok ht x1 t1 wa⟩
    · exact ⟨.non, rfl, qn H1 x1 t1⟩
end
end LH

namespace LH
open PySem PySem.Spec PyProof.Rows L2 NdefX LamX LU
theorem part_text {W : Wd} {y : Str} (h : y ∈ linesW W) : y.length + 1 ≤ (textW W).length := by
  have h1 := inJ_joinZ ⟨#[]⟩ (parts := (linesW W).map nl_) (nl_ y) (List.mem_map.mpr ⟨y, h, rfl⟩)
  have h2 : (nl_ y).length = y.length + 1 := by
    unfold nl_
    rw [sl_app, sl9]
  unfold textW
  rw [TL.join_eq]
  omega
theorem part_textB (W : Wd) : W.b.length ≤ (textW W).length := by
  have := part_text (W := W) (y := ("begin " : Str) ++ W.b) (List.mem_append_right _ List.mem_cons_self)
  rw [sl_app] at this
  omega
theorem part_textD (W : Wd) : W.d.length ≤ (textW W).length := by
  have := part_text (W := W) (y := ("bad " : Str) ++ W.d) (List.mem_append_right _ (List.mem_cons_of_mem _ List.mem_cons_self))
  rw [sl_app] at this
  omega
section
variable {P : Program} {w : World} {K : PySem.W.Frag} {mg : Str → Option Value} {base : Heap}
def sp_law (K : PySem.W.Frag) (tabs : List NTab) : Sp := fun vs H Q _ => ∃ (a : Addr) (ns : List Int), vs = [.ref a] ∧ SqL K H a (ns.map V.int) ∧ ns.length ≤ 63 ∧ TabsN tabs H ∧ ∀ H', Q (.bl true) H'
theorem ints_at {ns : List Int} {i : Nat} {x : V} {lo hi : Option Int} (h : ([V.int 0, V.int 5] ++ cutV (ns.map V.int) lo hi)[i]? = some x) : ∃ c, x = .int c := by
  have hm := List.mem_of_getElem? h
  rcases List.mem_append.mp hm with z | z
  · rcases List.mem_cons.mp z with z | z
    · exact ⟨0, z⟩
    · exact ⟨5, List.mem_singleton.mp z⟩
  · unfold cutV at z
    obtain ⟨c, _, rfl⟩ := List.mem_map.mp (List.mem_of_mem_drop (List.mem_of_mem_take z))
    exact ⟨c, rfl⟩
theorem ok_law {f : Addr} {fd : FuncData} {tabs : List NTab} (F : Fun K "law" "law" s_law f fd) (T : TX K mg) (G_machine_of : FnOk P w K mg base (L2.CX P w) 7 T.a_machine_of T.fd_machine_of ["letters", "pattern"] (sp_machineZ tabs T.A_NoPattern)) : FnOk P w K mg base CX0 12 f fd ["script"] (sp_law K tabs) := by
  have G_law_well : FnOk P w K mg base CX0 1 T.a_law_well T.fd_law_well ["cell"] sp_law_well := ok_law_well T
  have G_law_world : FnOk P w K mg base CX0 6 T.a_law_world T.fd_law_world ["well"] sp_law_world := ok_law_world T
  have G_law_near : FnOk P w K mg base CX0 6 T.a_law_near T.fd_law_near ["well", "world"] sp_near := ok_law_near T
  have G_show_world : FnOk P w K mg base CX0 2 T.a_show_world T.fd_show_world ["world"] sp_show_world := ok_show_world T
  have G_read_world := ok_read_world T G_machine_of
  have G_is_world := ok_is_worldZ T G_machine_of
  have G_law_same : FnOk P w K mg base CX0 5 T.a_law_same T.fd_law_same ["got", "due"] (sp_same 4) := ok_law_same T
  have G_law_bent : FnOk P w K mg base CX0 2 T.a_law_bent T.fd_law_bent ["well", "text"] sp_bent := ok_law_bent T
  have G_law_back := ok_law_back T G_machine_of
  refine F.ok sc_law (fun vs H Q E h => ?_) (fun cdv A outer s H vs Q E hr h => ?_)
  · obtain ⟨a, ns, rfl, _⟩ := h
    rfl
  · obtain ⟨a, ns, rfl, hS, hlen, tb, q⟩ := h
    refine ⟨_, (pss_cons (ps_for PassesOwn.never rfl (pi_listK K rfl (pe_op op_cat (pe_lst (pa_cons pe_int (pa_cons pe_int pa_nil))) (pe_slice (sl_listK K rfl) (pv 0) po_none (po_some pe_int)))) (pg_name (i := 1) sc_law.nd rfl (Or.inl rfl))
        (pss_cons (ps_set (i := 2) sc_law.nd rfl (Or.inl rfl) (pe_call G_law_well (hr.mono (by decide)) (by rfl) T.g_law_well T.F_law_well.kp T.b_law_well .nil pass0 (pa_cons (pv 1) pa_nil)))
          (pss_cons (ps_set (i := 3) sc_law.nd rfl (Or.inl rfl) (pe_call G_law_world (hr.mono (by decide)) (by rfl) T.g_law_world T.F_law_world.kp T.b_law_world .nil pass0 (pa_cons (pv 2) pa_nil)))
          (pss_cons (ps_set (i := 4) sc_law.nd rfl (Or.inl rfl) (pe_call G_law_near (hr.mono (by decide)) (by rfl) T.g_law_near T.F_law_near.kp T.b_law_near .nil pass0 (pa_cons (pv 2) (pa_cons (pv 3) pa_nil))))
          (pss_cons (ps_for PassesOwn.never rfl (pi_listK K rfl (pe_lst (pa_cons (pv 3) (pa_cons (pv 4) pa_nil)))) (pg_name (i := 5) sc_law.nd rfl (Or.inl rfl))
            (pss_cons (ps_set (i := 6) sc_law.nd rfl (Or.inl rfl) (pe_callS G_read_world (hr.mono (by decide)) (by rfl) T.g_read_world T.F_read_world.kp T.b_read_world (fun σ => passAt LamX.takes0 σ) (pa_cons (pe_call G_show_world (hr.mono (by decide)) (by rfl) T.g_show_world T.F_show_world.kp T.b_show_world .nil pass0 (pa_cons (pv 5) pa_nil)) pa_nil)))
              (pss_one (ps_if (PW.pt (pw_or (pt_not (pt_val (pe_call G_law_same (hr.mono (by decide)) (by rfl) T.g_law_same T.F_law_same.kp T.b_law_same .nil pass0 (pa_cons (pv 6) (pa_cons (pv 5) pa_nil))))) (pw_or1 (pt_cmpR op_notBl (pe_call G_is_world (hr.mono (by decide)) (by rfl) T.g_is_world T.F_is_world.kp T.b_is_world .nil pass0 (pa_cons (pv 6) pa_nil)) pe_bl (nomark _)))))
                (pss_one (ps_ret pe_bl))
                pss_nil))))
          (pss_cons (ps_if (pt_cmpR op_ne (pe_cmpR op_eq (pe_call G_show_world (hr.mono (by decide)) (by rfl) T.g_show_world T.F_show_world.kp T.b_show_world .nil pass0 (pa_cons (pv 3) pa_nil)) (pe_call G_show_world (hr.mono (by decide)) (by rfl) T.g_show_world T.F_show_world.kp T.b_show_world .nil pass0 (pa_cons (pv 4) pa_nil)) (nomark _)) (pe_cmpR (op_eqD hr.units) (pv 3) (pv 4) (nomark _)) (nomark _))
            (pss_one (ps_ret pe_bl))
            pss_nil)
          (pss_cons (ps_set (i := 7) sc_law.nd rfl (Or.inl rfl) (pe_call G_law_bent (hr.mono (by decide)) (by rfl) T.g_law_bent T.F_law_bent.kp T.b_law_bent .nil pass0 (pa_cons (pv 2) (pa_cons (pe_call G_show_world (hr.mono (by decide)) (by rfl) T.g_show_world T.F_show_world.kp T.b_show_world .nil pass0 (pa_cons (pv 3) pa_nil)) pa_nil))))
          (pss_cons (ps_set (i := 8) sc_law.nd rfl (Or.inl rfl) (pe_call G_law_back (hr.mono (by decide)) (by rfl) T.g_law_back T.F_law_back.kp T.b_law_back .nil pass0 (pa_cons (pv 7) pa_nil)))
          (pss_one (ps_if (PW.pt (pw_and (pt_cmpR op_notN (pv 8) pe_non (nomark _)) (pw_and (pt_cmpR op_lt (pe_callB (call_lenK K rfl) (by rfl) T.m_len (by decide +kernel) (pa_cons (pe_ix (ix_tupK K rfl) (pv 8) pe_int (fun _ _ => rfl)) pa_nil)) pe_int (nomark _)) (pw_and1 (pt_cmpR op_lt (pe_callB (call_max2 rfl) (by rfl) T.m_max (by decide +kernel) (pa_cons (pe_callB call_len_str (by rfl) T.m_len (by decide +kernel) (pa_cons (pe_ix (ix_tupK K rfl) (pv 8) pe_int (fun _ _ => rfl)) pa_nil)) (pa_cons (pe_callB call_len_str (by rfl) T.m_len (by decide +kernel) (pa_cons (pe_ix (ix_tupK K rfl) (pv 8) pe_int (fun _ _ => rfl)) pa_nil)) pa_nil))) pe_int (nomark _))))))
            (pss_one (ps_if (PW.pt (pw_or (pt_cmpR op_notBl (pe_call G_is_world (hr.mono (by decide)) (by rfl) T.g_is_world T.F_is_world.kp T.b_is_world .nil pass0 (pa_cons (pv 8) pa_nil)) pe_bl (nomark _)) (pw_or1 (pt_cmpR op_ne (pe_call G_show_world (hr.mono (by decide)) (by rfl) T.g_show_world T.F_show_world.kp T.b_show_world .nil pass0 (pa_cons (pv 8) pa_nil)) (pv 7) (nomark _)))))
                (pss_one (ps_ret pe_bl))
                pss_nil))
            pss_nil))))))))))
      (pss_one (ps_ret pe_bl))), ?_⟩
    refine ⟨by show 2 ≤ sizeLine; decide, fun p1 n1 => ?_⟩
    refine ⟨.ref a, rfl, 28, rfl, a, _, rfl, (same_new n1).seq hS, fun p2 n2 => ?_⟩
    refine ⟨p1, p2, [.int 0, .int 5], _, rfl, rfl, ?_, upd_same, ?_, fun p3 n3 => ?_⟩
    · exact (same_new n2) _ _ upd_same
    · have := cutV_length (ns.map V.int) none (some 28)
      rw [List.length_map] at this
      exact Nat.le_trans (show 2 + (cutV (ns.map V.int) none (some 28)).length ≤ 100 by omega) (by decide)
    have t3 := tb.ext (((same_new (o := .lst [V.int 0, V.int 5]) n1).trans (same_new (o := .lst (cutV (ns.map V.int) none (some 28))) n2)).trans (same_new (o := .lst ([V.int 0, V.int 5] ++ cutV (ns.map V.int) none (some 28))) n3))
    refine ⟨p3, rfl, ⟨_, .inl (.inl upd_same)⟩, ?_⟩
    refine for_it (walk_list (K := K) (a := p3) (xs := [V.int 0, V.int 5] ++ cutV (ns.map V.int) none (some 28))) (fun i σ H' => H' p3 = some (.lst ([V.int 0, V.int 5] ++ cutV (ns.map V.int) none (some 28))) ∧ TabsN tabs H' ∧ ∃ y1 y2 y3 y4 y5 y6 y7 y8, σ = [some (.ref a), y1, y2, y3, y4, y5, y6, y7, y8]) ⟨upd_same, t3, none, none, none, none, none, none, none, none, rfl⟩ (fun i σ H' _ hP => .inl (.inl hP.1)) (fun i x σ H0 H0' hi hW hY => ?_) (fun σ H1 hW => ?_)
    · obtain ⟨h3, t0, y1, y2, y3, y4, y5, y6, y7, y8, rfl⟩ := hW
      obtain ⟨rfl, hx⟩ := hY
      obtain ⟨c, rfl⟩ := ints_at hx
      refine ⟨.int c, rfl, c, rfl, fun H1 r s1 nr R1 => ?_⟩
      have t1 := t0.ext s1
      have r3 : p3 ≠ r := ne_of_none h3 nr
      refine ⟨.ref r, rfl, r, rfl, R1, fun H2 wa W o2 R2 hW ok lit => ?_⟩
      have t2 := tabs_row R1 t1 o2
      refine ⟨.ref r, rfl, .ref wa, rfl, r, wa, W, rfl, R2, hW, ok, lit, fun H3 na V o3 R3 hV vok vlit => ?_⟩
      have t3 := tabs_row R2 t2 o3
      have hW3 := hW.mono (Tups.off R2 o3)
      have h33 := o3 _ _ r3 (o2 _ _ r3 (s1 _ _ h3))
      refine ⟨.ref wa, rfl, .ref na, rfl, by show 2 ≤ sizeLine; decide, fun L nL => ?_⟩
      have sL := same_new (o := .lst [.ref wa, .ref na]) nL
      have eL := upd_same (H := H3) (a := L) (o := .lst [.ref wa, .ref na])
      have R4 := R3.sameW sL
      have t4 := t3.ext sL
      have hW4 := hW3.mono (Tups.same sL)
      have hV4 := hV.mono (Tups.same sL)
      have h34 := sL _ _ h33
      clear t3
      generalize upd H3 L (.lst [.ref wa, .ref na]) = H4 at eL R4 t4 hW4 hV4 h34
      refine ⟨L, rfl, ⟨_, .inl (.inl eL)⟩, ?_⟩
      refine for_it (walk_list (K := K) (a := L) (xs := [.ref wa, .ref na])) (fun i σ H' => ExtN H4 H' ∧ TabsN tabs H' ∧ ∃ y5 y6, σ = [some (.ref a), some (.int c), some (.ref r), some (.ref wa), some (.ref na), y5, y6, y7, y8]) ⟨ExtN.refl _, t4, y5, y6, rfl⟩ (fun i σ H' _ hP => .inl (.inl (lstN hP.1 eL))) (fun i x σ H5o H5 hi hW hY => ?_) (fun σ H5 hW => ?_)
      · obtain ⟨x5, t5, y5, y6, rfl⟩ := hW
        obtain ⟨rfl, hx⟩ := hY
        obtain ⟨a1, W1, rfl, h1, ok1, lit1⟩ : ∃ (a1 : Addr) (W1 : Wd), x = .ref a1 ∧ WdAt H4 a1 W1 ∧ W1.Ok ∧ W1.Lit := by
          match i, hx with
          | 0, hx => exact ⟨wa, W, (Option.some.inj hx).symm, hW4, ok, lit⟩
          | 1, hx => exact ⟨na, V, (Option.some.inj hx).symm, hV4, vok, vlit⟩
        have h5 := h1.mono (tupsN x5)
        have l1 := Nat.le_trans (textW_len ok1 lit1) (show 470 ≤ 1000 by decide)
        refine ⟨.ref a1, rfl, a1, W1, rfl, h5, ok1, lit1.sm, fun H6 s6 => ?_⟩
        have h6 := h5.mono (Tups.same s6)
        refine ⟨textW W1, rfl, l1, t5.ext s6, fun U H7 u hu uok _ x7 t7 hU => ?_, fun H7 x7 t7 no => absurd ⟨W1, rw_show ok1, ok1, rfl⟩ no⟩
        have e : U = W1 := by
          rw [rw_show ok1] at hu
          exact (toRW_inj (Option.some.inj hu)).symm
        subst e
        have h7 := h6.mono (tupsN x7)
        refine ⟨.ref u, rfl, .ref a1, rfl, .ref u, .ref a1, rfl, sameV_wd hU h7, fun H8 s8 => ⟨true, rfl, ?_⟩⟩
        refine iteF ?_
        refine ⟨.ref u, rfl, u, toRW U, rfl, toRW_at.mpr (hU.mono (Tups.same s8)), short_W ok1 lit1, t7.ext s8, fun H9 b x9 t9 hb => ?_⟩
        obtain rfl : b = true := hb.mpr ⟨U, rfl, ok1⟩
        refine ⟨true, true, rfl, rfl, _, rfl, iteF' rfl ?_⟩
        exact ⟨((x5.trans (.of s6)).trans x7).trans ((ExtN.of s8).trans x9), t9, _, _, rfl⟩
      · obtain ⟨x5, t5, y5, y6, rfl⟩ := hW
        have hW5 := hW4.mono (tupsN x5)
        have hV5 := hV4.mono (tupsN x5)
        have R5 := R4.extN x5
        have h35 := lstN x5 h34
        refine ⟨.ref wa, rfl, wa, W, rfl, hW5, ok, lit.sm, fun H6 s6 => ?_⟩
        refine ⟨.ref na, rfl, na, V, rfl, hV5.mono (Tups.same s6), vok, vlit.sm, fun H7 s7 => ?_⟩
        have s67 := s6.trans s7
        have hW7 := hW5.mono (Tups.same s67)
        have hV7 := hV5.mono (Tups.same s67)
        have eqs : PyData.eqv (dW W) (dW V) = decide (L2.V.str (textW W) = L2.V.str (textW V)) := by
          by_cases h : W = V
          · rw [(eqv_W ok).mpr h, h, decide_eq_true rfl]
          · have n1 : PyData.eqv (dW W) (dW V) = false := Bool.eq_false_iff.mpr fun e => h ((eqv_W ok).mp e)
            rw [n1, decide_eq_false]
            intro e
            have e := L2.V.str.inj e
            have a1 := rw_show ok
            have a2 := rw_show vok
            rw [e, a2] at a1
            exact h (toRW_inj (Option.some.inj a1)).symm
        refine ⟨rfl, .ref wa, rfl, .ref na, rfl, dW W, dW V, dW_at hW7, dW_at hV7, shaped_W ok, shaped_W vok, ?_⟩
        rw [eqs]
        refine ⟨rfl, _, rfl, iteF' (by rw [decide_eq_true rfl]; rfl) ?_⟩
        have x7 := x5.trans (.of s67)
        have t7 := t5.ext s67
        refine ⟨.ref r, rfl, .ref wa, rfl, wa, W, rfl, hW7, ok, lit.sm, fun H8 s8 => ?_⟩
        have R8 := R5.sameW (s67.trans s8)
        have t8 := t7.ext s8
        have h38 := s8 _ _ (s67 _ _ h35)
        refine ⟨r, textW W, rfl, R8, textW_len ok lit, fun H9 t o9 R9 lt => ?_⟩
        have t9 := tabs_row R8 t8 o9
        have h39 := o9 _ _ r3 h38
        refine ⟨.str t, rfl, t, rfl, lt, t9, fun U H10 u uok ht x10 t10 hU => ?_, fun H10 x10 t10 => ?_⟩
        · obtain ⟨S, ps, e1, e2, l1, rl⟩ := id hU
          refine ⟨.ref u, rfl, rfl, _, rfl, iteT ?_⟩
          refine ⟨.ref u, rfl, u, _, 2, .ref S, rfl, rfl, .inl (.inl e1), atI_nat (j := 2) rfl, S, _, rfl, .inr (.inl (.inl e2)), ?_⟩
          have st : H10 p3 = some (.lst ([L2.V.int 0, L2.V.int 5] ++ cutV (ns.map L2.V.int) none (some 28))) := lstN x10 h39
          have bl : U.b.length ≤ 1000 := by rw [← ht] at lt; exact Nat.le_trans (part_textB U) lt
          have dl : U.d.length ≤ 1000 := by rw [← ht] at lt; exact Nat.le_trans (part_textD U) lt
          refine ⟨_, _, rfl, rfl, _, rfl, ite2 (fun c9 => ?_) (fun c9 => iteF ⟨st, t10, _, _, _, _, _, _, _, _, rfl⟩)⟩
          refine ⟨.ref u, rfl, u, _, 3, .str U.b, rfl, rfl, .inl (.inl e1), atI_nat (j := 3) rfl, U.b, rfl, Nat.le_trans bl (by decide), ?_⟩
          refine ⟨.ref u, rfl, u, _, 4, .str U.d, rfl, rfl, .inl (.inl e1), atI_nat (j := 4) rfl, U.d, rfl, Nat.le_trans dl (by decide), ?_⟩
          refine ⟨_, _, rfl, _, _, rfl, rfl, _, rfl, ite2 (fun c31 => ?_) (fun c31 => ⟨st, t10, _, _, _, _, _, _, _, _, rfl⟩)⟩
          have c9 := of_decide_eq_true c9
          have c31 := of_decide_eq_true c31
          have ulit : U.Lit := by
            refine ⟨?_, ?_, ?_⟩
            · rw [List.length_map, l1] at c9
              omega
            · split at c31 <;> omega
            · split at c31 <;> omega
          refine ⟨.ref u, rfl, u, toRW U, rfl, toRW_at.mpr hU, short_W uok ulit, t10, fun H11 b x11 t11 hb => ?_⟩
          obtain rfl : b = true := hb.mpr ⟨U, rfl, uok⟩
          refine ⟨true, true, rfl, rfl, _, rfl, iteF' rfl ?_⟩
          refine ⟨.ref u, rfl, u, U, rfl, hU.mono (tupsN x11), uok, ulit.sm, fun H12 s12 => ?_⟩
          rw [ht]
          refine ⟨.str t, rfl, rfl, _, rfl, iteF' (by rw [decide_eq_true rfl]; rfl) ?_⟩
          exact ⟨s12 _ _ (lstN x11 st), t11.ext s12, _, _, _, _, _, _, _, _, rfl⟩
        · refine ⟨.non, rfl, rfl, _, rfl, iteF (iteF ?_)⟩
          exact ⟨lstN x10 h39, t10, _, _, _, _, _, _, _, _, rfl⟩
    · exact q _
end
end LH

namespace LH
open PySem PySem.Spec PyProof.Rows L2 NdefX LamX
theorem ok_machine_of {P : Program} {w : World} {K : PySem.W.Frag} {mg : Str → Option Value} {base : Heap} (T : TX K mg) {c PT : Addr} {tabs : List NTab} (F : FunC K "machine_of" "machine_of" s_machine_of T.a_machine_of T.fd_machine_of c) (TB : TabB base mg c PT) (hin : (PT, nm_machine_of) ∈ tabs) (huq : ∀ p ∈ tabs, p.1 = PT → p.2 = nm_machine_of) : FnOk P w K mg base (L2.CX P w) 7 T.a_machine_of T.fd_machine_of ["letters", "pattern"] (sp_machineZ tabs T.A_NoPattern) := ok_machineZ T F TB hin huq
theorem all_mk {l : PySem.W.OpenLaw} {w : World} {K : PySem.W.Frag} {h : Heap} {mg : Str → Option Value} {fa : Addr} (X : K.In h) (G : h.Ns mainGlobals mg) (hfa : mg "law" = some (.ref fa))
    {f_built : Addr} {od_built an_built : Option Addr} {sl_built : Array (Option Value)} {oc_built kV_built dc_built pm_built cd_built ct_built : Value}
    (a_built : PySem.W.nsIn K mainGlobals "built" = some (some (.ref f_built))) (l_built : K.lookup f_built = some ⟨oc_built, od_built, .func (PySem.W.fnOf "built" "built" (defArgs s_built) (defBody s_built) (defScope s_built) .none kV_built dc_built pm_built an_built cd_built ct_built), sl_built⟩) (c_built : PySem.W.codeIn K cd_built "built" = true) (k_built : PySem.W.keepIn K (.ref f_built) = true)
    {f_walked : Addr} {od_walked an_walked : Option Addr} {sl_walked : Array (Option Value)} {oc_walked kV_walked dc_walked pm_walked cd_walked ct_walked : Value}
    (a_walked : PySem.W.nsIn K mainGlobals "walked" = some (some (.ref f_walked))) (l_walked : K.lookup f_walked = some ⟨oc_walked, od_walked, .func (PySem.W.fnOf "walked" "walked" (defArgs s_walked) (defBody s_walked) (defScope s_walked) .none kV_walked dc_walked pm_walked an_walked cd_walked ct_walked), sl_walked⟩) (c_walked : PySem.W.codeIn K cd_walked "walked" = true) (k_walked : PySem.W.keepIn K (.ref f_walked) = true)
    {f_parted : Addr} {od_parted an_parted : Option Addr} {sl_parted : Array (Option Value)} {oc_parted kV_parted dc_parted pm_parted cd_parted ct_parted : Value}
    (a_parted : PySem.W.nsIn K mainGlobals "parted" = some (some (.ref f_parted))) (l_parted : K.lookup f_parted = some ⟨oc_parted, od_parted, .func (PySem.W.fnOf "parted" "parted" (defArgs s_parted) (defBody s_parted) (defScope s_parted) .none kV_parted dc_parted pm_parted an_parted cd_parted ct_parted), sl_parted⟩) (c_parted : PySem.W.codeIn K cd_parted "parted" = true) (k_parted : PySem.W.keepIn K (.ref f_parted) = true)
    {f_first_groups : Addr} {od_first_groups an_first_groups : Option Addr} {sl_first_groups : Array (Option Value)} {oc_first_groups kV_first_groups dc_first_groups pm_first_groups cd_first_groups ct_first_groups : Value}
    (a_first_groups : PySem.W.nsIn K mainGlobals "first_groups" = some (some (.ref f_first_groups))) (l_first_groups : K.lookup f_first_groups = some ⟨oc_first_groups, od_first_groups, .func (PySem.W.fnOf "first_groups" "first_groups" (defArgs s_first_groups) (defBody s_first_groups) (defScope s_first_groups) .none kV_first_groups dc_first_groups pm_first_groups an_first_groups cd_first_groups ct_first_groups), sl_first_groups⟩) (c_first_groups : PySem.W.codeIn K cd_first_groups "first_groups" = true) (k_first_groups : PySem.W.keepIn K (.ref f_first_groups) = true)
    {f_ways_back : Addr} {od_ways_back an_ways_back : Option Addr} {sl_ways_back : Array (Option Value)} {oc_ways_back kV_ways_back dc_ways_back pm_ways_back cd_ways_back ct_ways_back : Value}
    (a_ways_back : PySem.W.nsIn K mainGlobals "ways_back" = some (some (.ref f_ways_back))) (l_ways_back : K.lookup f_ways_back = some ⟨oc_ways_back, od_ways_back, .func (PySem.W.fnOf "ways_back" "ways_back" (defArgs s_ways_back) (defBody s_ways_back) (defScope s_ways_back) .none kV_ways_back dc_ways_back pm_ways_back an_ways_back cd_ways_back ct_ways_back), sl_ways_back⟩) (c_ways_back : PySem.W.codeIn K cd_ways_back "ways_back" = true) (k_ways_back : PySem.W.keepIn K (.ref f_ways_back) = true)
    {f_hits_of : Addr} {od_hits_of an_hits_of : Option Addr} {sl_hits_of : Array (Option Value)} {oc_hits_of kV_hits_of dc_hits_of pm_hits_of cd_hits_of ct_hits_of : Value}
    (a_hits_of : PySem.W.nsIn K mainGlobals "hits_of" = some (some (.ref f_hits_of))) (l_hits_of : K.lookup f_hits_of = some ⟨oc_hits_of, od_hits_of, .func (PySem.W.fnOf "hits_of" "hits_of" (defArgs s_hits_of) (defBody s_hits_of) (defScope s_hits_of) .none kV_hits_of dc_hits_of pm_hits_of an_hits_of cd_hits_of ct_hits_of), sl_hits_of⟩) (c_hits_of : PySem.W.codeIn K cd_hits_of "hits_of" = true) (k_hits_of : PySem.W.keepIn K (.ref f_hits_of) = true)
    {f_split_group : Addr} {od_split_group an_split_group : Option Addr} {sl_split_group : Array (Option Value)} {oc_split_group kV_split_group dc_split_group pm_split_group cd_split_group ct_split_group : Value}
    (a_split_group : PySem.W.nsIn K mainGlobals "split_group" = some (some (.ref f_split_group))) (l_split_group : K.lookup f_split_group = some ⟨oc_split_group, od_split_group, .func (PySem.W.fnOf "split_group" "split_group" (defArgs s_split_group) (defBody s_split_group) (defScope s_split_group) .none kV_split_group dc_split_group pm_split_group an_split_group cd_split_group ct_split_group), sl_split_group⟩) (c_split_group : PySem.W.codeIn K cd_split_group "split_group" = true) (k_split_group : PySem.W.keepIn K (.ref f_split_group) = true)
    {f_merged : Addr} {od_merged an_merged : Option Addr} {sl_merged : Array (Option Value)} {oc_merged kV_merged dc_merged pm_merged cd_merged ct_merged : Value}
    (a_merged : PySem.W.nsIn K mainGlobals "merged" = some (some (.ref f_merged))) (l_merged : K.lookup f_merged = some ⟨oc_merged, od_merged, .func (PySem.W.fnOf "merged" "merged" (defArgs s_merged) (defBody s_merged) (defScope s_merged) .none kV_merged dc_merged pm_merged an_merged cd_merged ct_merged), sl_merged⟩) (c_merged : PySem.W.codeIn K cd_merged "merged" = true) (k_merged : PySem.W.keepIn K (.ref f_merged) = true)
    {f_is_letters : Addr} {od_is_letters an_is_letters : Option Addr} {sl_is_letters : Array (Option Value)} {oc_is_letters kV_is_letters dc_is_letters pm_is_letters cd_is_letters ct_is_letters : Value}
    (a_is_letters : PySem.W.nsIn K mainGlobals "is_letters" = some (some (.ref f_is_letters))) (l_is_letters : K.lookup f_is_letters = some ⟨oc_is_letters, od_is_letters, .func (PySem.W.fnOf "is_letters" "is_letters" (defArgs s_is_letters) (defBody s_is_letters) (defScope s_is_letters) .none kV_is_letters dc_is_letters pm_is_letters an_is_letters cd_is_letters ct_is_letters), sl_is_letters⟩) (c_is_letters : PySem.W.codeIn K cd_is_letters "is_letters" = true) (k_is_letters : PySem.W.keepIn K (.ref f_is_letters) = true)
    {f_rises : Addr} {od_rises an_rises : Option Addr} {sl_rises : Array (Option Value)} {oc_rises kV_rises dc_rises pm_rises cd_rises ct_rises : Value}
    (a_rises : PySem.W.nsIn K mainGlobals "rises" = some (some (.ref f_rises))) (l_rises : K.lookup f_rises = some ⟨oc_rises, od_rises, .func (PySem.W.fnOf "rises" "rises" (defArgs s_rises) (defBody s_rises) (defScope s_rises) .none kV_rises dc_rises pm_rises an_rises cd_rises ct_rises), sl_rises⟩) (c_rises : PySem.W.codeIn K cd_rises "rises" = true) (k_rises : PySem.W.keepIn K (.ref f_rises) = true)
    {f_has : Addr} {od_has an_has : Option Addr} {sl_has : Array (Option Value)} {oc_has kV_has dc_has pm_has cd_has ct_has : Value}
    (a_has : PySem.W.nsIn K mainGlobals "has" = some (some (.ref f_has))) (l_has : K.lookup f_has = some ⟨oc_has, od_has, .func (PySem.W.fnOf "has" "has" (defArgs s_has) (defBody s_has) (defScope s_has) .none kV_has dc_has pm_has an_has cd_has ct_has), sl_has⟩) (c_has : PySem.W.codeIn K cd_has "has" = true) (k_has : PySem.W.keepIn K (.ref f_has) = true)
    {f_machine_of cr_machine_of pt_machine_of : Addr} {od_machine_of an_machine_of : Option Addr} {sl_machine_of : Array (Option Value)} {oc_machine_of kV_machine_of dc_machine_of pm_machine_of ct_machine_of : Value}
    (a_machine_of : PySem.W.nsIn K mainGlobals "machine_of" = some (some (.ref f_machine_of))) (l_machine_of : K.lookup f_machine_of = some ⟨oc_machine_of, od_machine_of, .func (PySem.W.fnOf "machine_of" "machine_of" (defArgs s_machine_of) (defBody s_machine_of) (defScope s_machine_of) .none kV_machine_of dc_machine_of pm_machine_of an_machine_of (.ref cr_machine_of) ct_machine_of), sl_machine_of⟩) (c_machine_of : PySem.W.codeIn K (.ref cr_machine_of) "machine_of" = true) (k_machine_of : PySem.W.keepIn K (.ref f_machine_of) = true)
    (h_machine_of : PySem.W.codeHdIn K cr_machine_of pt_machine_of = true) (n_machine_of : K.lookup pt_machine_of = none) (e_machine_of : h.get? pt_machine_of = some { cls := .none, data := .fields #[] })
    {f_branches_of : Addr} {od_branches_of an_branches_of : Option Addr} {sl_branches_of : Array (Option Value)} {oc_branches_of kV_branches_of dc_branches_of pm_branches_of cd_branches_of ct_branches_of : Value}
    (a_branches_of : PySem.W.nsIn K mainGlobals "branches_of" = some (some (.ref f_branches_of))) (l_branches_of : K.lookup f_branches_of = some ⟨oc_branches_of, od_branches_of, .func (PySem.W.fnOf "branches_of" "branches_of" (defArgs s_branches_of) (defBody s_branches_of) (defScope s_branches_of) .none kV_branches_of dc_branches_of pm_branches_of an_branches_of cd_branches_of ct_branches_of), sl_branches_of⟩) (c_branches_of : PySem.W.codeIn K cd_branches_of "branches_of" = true) (k_branches_of : PySem.W.keepIn K (.ref f_branches_of) = true)
    {f_items_of : Addr} {od_items_of an_items_of : Option Addr} {sl_items_of : Array (Option Value)} {oc_items_of kV_items_of dc_items_of pm_items_of cd_items_of ct_items_of : Value}
    (a_items_of : PySem.W.nsIn K mainGlobals "items_of" = some (some (.ref f_items_of))) (l_items_of : K.lookup f_items_of = some ⟨oc_items_of, od_items_of, .func (PySem.W.fnOf "items_of" "items_of" (defArgs s_items_of) (defBody s_items_of) (defScope s_items_of) .none kV_items_of dc_items_of pm_items_of an_items_of cd_items_of ct_items_of), sl_items_of⟩) (c_items_of : PySem.W.codeIn K cd_items_of "items_of" = true) (k_items_of : PySem.W.keepIn K (.ref f_items_of) = true)
    {f_choice_at : Addr} {od_choice_at an_choice_at : Option Addr} {sl_choice_at : Array (Option Value)} {oc_choice_at kV_choice_at dc_choice_at pm_choice_at cd_choice_at ct_choice_at : Value}
    (a_choice_at : PySem.W.nsIn K mainGlobals "choice_at" = some (some (.ref f_choice_at))) (l_choice_at : K.lookup f_choice_at = some ⟨oc_choice_at, od_choice_at, .func (PySem.W.fnOf "choice_at" "choice_at" (defArgs s_choice_at) (defBody s_choice_at) (defScope s_choice_at) .none kV_choice_at dc_choice_at pm_choice_at an_choice_at cd_choice_at ct_choice_at), sl_choice_at⟩) (c_choice_at : PySem.W.codeIn K cd_choice_at "choice_at" = true) (k_choice_at : PySem.W.keepIn K (.ref f_choice_at) = true)
    {f_bracket_at : Addr} {od_bracket_at an_bracket_at : Option Addr} {sl_bracket_at : Array (Option Value)} {oc_bracket_at kV_bracket_at dc_bracket_at pm_bracket_at cd_bracket_at ct_bracket_at : Value}
    (a_bracket_at : PySem.W.nsIn K mainGlobals "bracket_at" = some (some (.ref f_bracket_at))) (l_bracket_at : K.lookup f_bracket_at = some ⟨oc_bracket_at, od_bracket_at, .func (PySem.W.fnOf "bracket_at" "bracket_at" (defArgs s_bracket_at) (defBody s_bracket_at) (defScope s_bracket_at) .none kV_bracket_at dc_bracket_at pm_bracket_at an_bracket_at cd_bracket_at ct_bracket_at), sl_bracket_at⟩) (c_bracket_at : PySem.W.codeIn K cd_bracket_at "bracket_at" = true) (k_bracket_at : PySem.W.keepIn K (.ref f_bracket_at) = true)
    {f_mark_at : Addr} {od_mark_at an_mark_at : Option Addr} {sl_mark_at : Array (Option Value)} {oc_mark_at kV_mark_at dc_mark_at pm_mark_at cd_mark_at ct_mark_at : Value}
    (a_mark_at : PySem.W.nsIn K mainGlobals "mark_at" = some (some (.ref f_mark_at))) (l_mark_at : K.lookup f_mark_at = some ⟨oc_mark_at, od_mark_at, .func (PySem.W.fnOf "mark_at" "mark_at" (defArgs s_mark_at) (defBody s_mark_at) (defScope s_mark_at) .none kV_mark_at dc_mark_at pm_mark_at an_mark_at cd_mark_at ct_mark_at), sl_mark_at⟩) (c_mark_at : PySem.W.codeIn K cd_mark_at "mark_at" = true) (k_mark_at : PySem.W.keepIn K (.ref f_mark_at) = true)
    {f_places_of : Addr} {od_places_of an_places_of : Option Addr} {sl_places_of : Array (Option Value)} {oc_places_of kV_places_of dc_places_of pm_places_of cd_places_of ct_places_of : Value}
    (a_places_of : PySem.W.nsIn K mainGlobals "places_of" = some (some (.ref f_places_of))) (l_places_of : K.lookup f_places_of = some ⟨oc_places_of, od_places_of, .func (PySem.W.fnOf "places_of" "places_of" (defArgs s_places_of) (defBody s_places_of) (defScope s_places_of) .none kV_places_of dc_places_of pm_places_of an_places_of cd_places_of ct_places_of), sl_places_of⟩) (c_places_of : PySem.W.codeIn K cd_places_of "places_of" = true) (k_places_of : PySem.W.keepIn K (.ref f_places_of) = true)
    {f_read : Addr} {od_read an_read : Option Addr} {sl_read : Array (Option Value)} {oc_read kV_read dc_read pm_read cd_read ct_read : Value}
    (a_read : PySem.W.nsIn K mainGlobals "read" = some (some (.ref f_read))) (l_read : K.lookup f_read = some ⟨oc_read, od_read, .func (PySem.W.fnOf "read" "read" (defArgs s_read) (defBody s_read) (defScope s_read) .none kV_read dc_read pm_read an_read cd_read ct_read), sl_read⟩) (c_read : PySem.W.codeIn K cd_read "read" = true) (k_read : PySem.W.keepIn K (.ref f_read) = true)
    {f_let_on : Addr} {od_let_on an_let_on : Option Addr} {sl_let_on : Array (Option Value)} {oc_let_on kV_let_on dc_let_on pm_let_on cd_let_on ct_let_on : Value}
    (a_let_on : PySem.W.nsIn K mainGlobals "let_on" = some (some (.ref f_let_on))) (l_let_on : K.lookup f_let_on = some ⟨oc_let_on, od_let_on, .func (PySem.W.fnOf "let_on" "let_on" (defArgs s_let_on) (defBody s_let_on) (defScope s_let_on) .none kV_let_on dc_let_on pm_let_on an_let_on cd_let_on ct_let_on), sl_let_on⟩) (c_let_on : PySem.W.codeIn K cd_let_on "let_on" = true) (k_let_on : PySem.W.keepIn K (.ref f_let_on) = true)
    {f_is_world : Addr} {od_is_world an_is_world : Option Addr} {sl_is_world : Array (Option Value)} {oc_is_world kV_is_world dc_is_world pm_is_world cd_is_world ct_is_world : Value}
    (a_is_world : PySem.W.nsIn K mainGlobals "is_world" = some (some (.ref f_is_world))) (l_is_world : K.lookup f_is_world = some ⟨oc_is_world, od_is_world, .func (PySem.W.fnOf "is_world" "is_world" (defArgs s_is_world) (defBody s_is_world) (defScope s_is_world) .none kV_is_world dc_is_world pm_is_world an_is_world cd_is_world ct_is_world), sl_is_world⟩) (c_is_world : PySem.W.codeIn K cd_is_world "is_world" = true) (k_is_world : PySem.W.keepIn K (.ref f_is_world) = true)
    {f_is_one_of : Addr} {od_is_one_of an_is_one_of : Option Addr} {sl_is_one_of : Array (Option Value)} {oc_is_one_of kV_is_one_of dc_is_one_of pm_is_one_of cd_is_one_of ct_is_one_of : Value}
    (a_is_one_of : PySem.W.nsIn K mainGlobals "is_one_of" = some (some (.ref f_is_one_of))) (l_is_one_of : K.lookup f_is_one_of = some ⟨oc_is_one_of, od_is_one_of, .func (PySem.W.fnOf "is_one_of" "is_one_of" (defArgs s_is_one_of) (defBody s_is_one_of) (defScope s_is_one_of) .none kV_is_one_of dc_is_one_of pm_is_one_of an_is_one_of cd_is_one_of ct_is_one_of), sl_is_one_of⟩) (c_is_one_of : PySem.W.codeIn K cd_is_one_of "is_one_of" = true) (k_is_one_of : PySem.W.keepIn K (.ref f_is_one_of) = true)
    {f_is_of_hands : Addr} {od_is_of_hands an_is_of_hands : Option Addr} {sl_is_of_hands : Array (Option Value)} {oc_is_of_hands kV_is_of_hands dc_is_of_hands pm_is_of_hands cd_is_of_hands ct_is_of_hands : Value}
    (a_is_of_hands : PySem.W.nsIn K mainGlobals "is_of_hands" = some (some (.ref f_is_of_hands))) (l_is_of_hands : K.lookup f_is_of_hands = some ⟨oc_is_of_hands, od_is_of_hands, .func (PySem.W.fnOf "is_of_hands" "is_of_hands" (defArgs s_is_of_hands) (defBody s_is_of_hands) (defScope s_is_of_hands) .none kV_is_of_hands dc_is_of_hands pm_is_of_hands an_is_of_hands cd_is_of_hands ct_is_of_hands), sl_is_of_hands⟩) (c_is_of_hands : PySem.W.codeIn K cd_is_of_hands "is_of_hands" = true) (k_is_of_hands : PySem.W.keepIn K (.ref f_is_of_hands) = true)
    {f_is_rule : Addr} {od_is_rule an_is_rule : Option Addr} {sl_is_rule : Array (Option Value)} {oc_is_rule kV_is_rule dc_is_rule pm_is_rule cd_is_rule ct_is_rule : Value}
    (a_is_rule : PySem.W.nsIn K mainGlobals "is_rule" = some (some (.ref f_is_rule))) (l_is_rule : K.lookup f_is_rule = some ⟨oc_is_rule, od_is_rule, .func (PySem.W.fnOf "is_rule" "is_rule" (defArgs s_is_rule) (defBody s_is_rule) (defScope s_is_rule) .none kV_is_rule dc_is_rule pm_is_rule an_is_rule cd_is_rule ct_is_rule), sl_is_rule⟩) (c_is_rule : PySem.W.codeIn K cd_is_rule "is_rule" = true) (k_is_rule : PySem.W.keepIn K (.ref f_is_rule) = true)
    {f_is_letter : Addr} {od_is_letter an_is_letter : Option Addr} {sl_is_letter : Array (Option Value)} {oc_is_letter kV_is_letter dc_is_letter pm_is_letter cd_is_letter ct_is_letter : Value}
    (a_is_letter : PySem.W.nsIn K mainGlobals "is_letter" = some (some (.ref f_is_letter))) (l_is_letter : K.lookup f_is_letter = some ⟨oc_is_letter, od_is_letter, .func (PySem.W.fnOf "is_letter" "is_letter" (defArgs s_is_letter) (defBody s_is_letter) (defScope s_is_letter) .none kV_is_letter dc_is_letter pm_is_letter an_is_letter cd_is_letter ct_is_letter), sl_is_letter⟩) (c_is_letter : PySem.W.codeIn K cd_is_letter "is_letter" = true) (k_is_letter : PySem.W.keepIn K (.ref f_is_letter) = true)
    {f_is_guard : Addr} {od_is_guard an_is_guard : Option Addr} {sl_is_guard : Array (Option Value)} {oc_is_guard kV_is_guard dc_is_guard pm_is_guard cd_is_guard ct_is_guard : Value}
    (a_is_guard : PySem.W.nsIn K mainGlobals "is_guard" = some (some (.ref f_is_guard))) (l_is_guard : K.lookup f_is_guard = some ⟨oc_is_guard, od_is_guard, .func (PySem.W.fnOf "is_guard" "is_guard" (defArgs s_is_guard) (defBody s_is_guard) (defScope s_is_guard) .none kV_is_guard dc_is_guard pm_is_guard an_is_guard cd_is_guard ct_is_guard), sl_is_guard⟩) (c_is_guard : PySem.W.codeIn K cd_is_guard "is_guard" = true) (k_is_guard : PySem.W.keepIn K (.ref f_is_guard) = true)
    {f_is_image : Addr} {od_is_image an_is_image : Option Addr} {sl_is_image : Array (Option Value)} {oc_is_image kV_is_image dc_is_image pm_is_image cd_is_image ct_is_image : Value}
    (a_is_image : PySem.W.nsIn K mainGlobals "is_image" = some (some (.ref f_is_image))) (l_is_image : K.lookup f_is_image = some ⟨oc_is_image, od_is_image, .func (PySem.W.fnOf "is_image" "is_image" (defArgs s_is_image) (defBody s_is_image) (defScope s_is_image) .none kV_is_image dc_is_image pm_is_image an_is_image cd_is_image ct_is_image), sl_is_image⟩) (c_is_image : PySem.W.codeIn K cd_is_image "is_image" = true) (k_is_image : PySem.W.keepIn K (.ref f_is_image) = true)
    {f_is_text_of : Addr} {od_is_text_of an_is_text_of : Option Addr} {sl_is_text_of : Array (Option Value)} {oc_is_text_of kV_is_text_of dc_is_text_of pm_is_text_of cd_is_text_of ct_is_text_of : Value}
    (a_is_text_of : PySem.W.nsIn K mainGlobals "is_text_of" = some (some (.ref f_is_text_of))) (l_is_text_of : K.lookup f_is_text_of = some ⟨oc_is_text_of, od_is_text_of, .func (PySem.W.fnOf "is_text_of" "is_text_of" (defArgs s_is_text_of) (defBody s_is_text_of) (defScope s_is_text_of) .none kV_is_text_of dc_is_text_of pm_is_text_of an_is_text_of cd_is_text_of ct_is_text_of), sl_is_text_of⟩) (c_is_text_of : PySem.W.codeIn K cd_is_text_of "is_text_of" = true) (k_is_text_of : PySem.W.keepIn K (.ref f_is_text_of) = true)
    {f_show_world : Addr} {od_show_world an_show_world : Option Addr} {sl_show_world : Array (Option Value)} {oc_show_world kV_show_world dc_show_world pm_show_world cd_show_world ct_show_world : Value}
    (a_show_world : PySem.W.nsIn K mainGlobals "show_world" = some (some (.ref f_show_world))) (l_show_world : K.lookup f_show_world = some ⟨oc_show_world, od_show_world, .func (PySem.W.fnOf "show_world" "show_world" (defArgs s_show_world) (defBody s_show_world) (defScope s_show_world) .none kV_show_world dc_show_world pm_show_world an_show_world cd_show_world ct_show_world), sl_show_world⟩) (c_show_world : PySem.W.codeIn K cd_show_world "show_world" = true) (k_show_world : PySem.W.keepIn K (.ref f_show_world) = true)
    {f_show_rule : Addr} {od_show_rule an_show_rule : Option Addr} {sl_show_rule : Array (Option Value)} {oc_show_rule kV_show_rule dc_show_rule pm_show_rule cd_show_rule ct_show_rule : Value}
    (a_show_rule : PySem.W.nsIn K mainGlobals "show_rule" = some (some (.ref f_show_rule))) (l_show_rule : K.lookup f_show_rule = some ⟨oc_show_rule, od_show_rule, .func (PySem.W.fnOf "show_rule" "show_rule" (defArgs s_show_rule) (defBody s_show_rule) (defScope s_show_rule) .none kV_show_rule dc_show_rule pm_show_rule an_show_rule cd_show_rule ct_show_rule), sl_show_rule⟩) (c_show_rule : PySem.W.codeIn K cd_show_rule "show_rule" = true) (k_show_rule : PySem.W.keepIn K (.ref f_show_rule) = true)
    {f_read_world : Addr} {od_read_world an_read_world : Option Addr} {sl_read_world : Array (Option Value)} {oc_read_world kV_read_world dc_read_world pm_read_world cd_read_world ct_read_world : Value}
    (a_read_world : PySem.W.nsIn K mainGlobals "read_world" = some (some (.ref f_read_world))) (l_read_world : K.lookup f_read_world = some ⟨oc_read_world, od_read_world, .func (PySem.W.fnOf "read_world" "read_world" (defArgs s_read_world) (defBody s_read_world) (defScope s_read_world) .none kV_read_world dc_read_world pm_read_world an_read_world cd_read_world ct_read_world), sl_read_world⟩) (c_read_world : PySem.W.codeIn K cd_read_world "read_world" = true) (k_read_world : PySem.W.keepIn K (.ref f_read_world) = true)
    {f_behind_blank : Addr} {od_behind_blank an_behind_blank : Option Addr} {sl_behind_blank : Array (Option Value)} {oc_behind_blank kV_behind_blank dc_behind_blank pm_behind_blank cd_behind_blank ct_behind_blank : Value}
    (a_behind_blank : PySem.W.nsIn K mainGlobals "behind_blank" = some (some (.ref f_behind_blank))) (l_behind_blank : K.lookup f_behind_blank = some ⟨oc_behind_blank, od_behind_blank, .func (PySem.W.fnOf "behind_blank" "behind_blank" (defArgs s_behind_blank) (defBody s_behind_blank) (defScope s_behind_blank) .none kV_behind_blank dc_behind_blank pm_behind_blank an_behind_blank cd_behind_blank ct_behind_blank), sl_behind_blank⟩) (c_behind_blank : PySem.W.codeIn K cd_behind_blank "behind_blank" = true) (k_behind_blank : PySem.W.keepIn K (.ref f_behind_blank) = true)
    {f_read_rule : Addr} {od_read_rule an_read_rule : Option Addr} {sl_read_rule : Array (Option Value)} {oc_read_rule kV_read_rule dc_read_rule pm_read_rule cd_read_rule ct_read_rule : Value}
    (a_read_rule : PySem.W.nsIn K mainGlobals "read_rule" = some (some (.ref f_read_rule))) (l_read_rule : K.lookup f_read_rule = some ⟨oc_read_rule, od_read_rule, .func (PySem.W.fnOf "read_rule" "read_rule" (defArgs s_read_rule) (defBody s_read_rule) (defScope s_read_rule) .none kV_read_rule dc_read_rule pm_read_rule an_read_rule cd_read_rule ct_read_rule), sl_read_rule⟩) (c_read_rule : PySem.W.codeIn K cd_read_rule "read_rule" = true) (k_read_rule : PySem.W.keepIn K (.ref f_read_rule) = true)
    {f_law_well : Addr} {od_law_well an_law_well : Option Addr} {sl_law_well : Array (Option Value)} {oc_law_well kV_law_well dc_law_well pm_law_well cd_law_well ct_law_well : Value}
    (a_law_well : PySem.W.nsIn K mainGlobals "_law_well" = some (some (.ref f_law_well))) (l_law_well : K.lookup f_law_well = some ⟨oc_law_well, od_law_well, .func (PySem.W.fnOf "_law_well" "_law_well" (defArgs s_law_well) (defBody s_law_well) (defScope s_law_well) .none kV_law_well dc_law_well pm_law_well an_law_well cd_law_well ct_law_well), sl_law_well⟩) (c_law_well : PySem.W.codeIn K cd_law_well "_law_well" = true) (k_law_well : PySem.W.keepIn K (.ref f_law_well) = true)
    {f_law_draw : Addr} {od_law_draw an_law_draw : Option Addr} {sl_law_draw : Array (Option Value)} {oc_law_draw kV_law_draw dc_law_draw pm_law_draw cd_law_draw ct_law_draw : Value}
    (a_law_draw : PySem.W.nsIn K mainGlobals "_law_draw" = some (some (.ref f_law_draw))) (l_law_draw : K.lookup f_law_draw = some ⟨oc_law_draw, od_law_draw, .func (PySem.W.fnOf "_law_draw" "_law_draw" (defArgs s_law_draw) (defBody s_law_draw) (defScope s_law_draw) .none kV_law_draw dc_law_draw pm_law_draw an_law_draw cd_law_draw ct_law_draw), sl_law_draw⟩) (c_law_draw : PySem.W.codeIn K cd_law_draw "_law_draw" = true) (k_law_draw : PySem.W.keepIn K (.ref f_law_draw) = true)
    {f_law_same : Addr} {od_law_same an_law_same : Option Addr} {sl_law_same : Array (Option Value)} {oc_law_same kV_law_same dc_law_same pm_law_same cd_law_same ct_law_same : Value}
    (a_law_same : PySem.W.nsIn K mainGlobals "_law_same" = some (some (.ref f_law_same))) (l_law_same : K.lookup f_law_same = some ⟨oc_law_same, od_law_same, .func (PySem.W.fnOf "_law_same" "_law_same" (defArgs s_law_same) (defBody s_law_same) (defScope s_law_same) .none kV_law_same dc_law_same pm_law_same an_law_same cd_law_same ct_law_same), sl_law_same⟩) (c_law_same : PySem.W.codeIn K cd_law_same "_law_same" = true) (k_law_same : PySem.W.keepIn K (.ref f_law_same) = true)
    {f_law_letters : Addr} {od_law_letters an_law_letters : Option Addr} {sl_law_letters : Array (Option Value)} {oc_law_letters kV_law_letters dc_law_letters pm_law_letters cd_law_letters ct_law_letters : Value}
    (a_law_letters : PySem.W.nsIn K mainGlobals "_law_letters" = some (some (.ref f_law_letters))) (l_law_letters : K.lookup f_law_letters = some ⟨oc_law_letters, od_law_letters, .func (PySem.W.fnOf "_law_letters" "_law_letters" (defArgs s_law_letters) (defBody s_law_letters) (defScope s_law_letters) .none kV_law_letters dc_law_letters pm_law_letters an_law_letters cd_law_letters ct_law_letters), sl_law_letters⟩) (c_law_letters : PySem.W.codeIn K cd_law_letters "_law_letters" = true) (k_law_letters : PySem.W.keepIn K (.ref f_law_letters) = true)
    {f_law_one_of : Addr} {od_law_one_of an_law_one_of : Option Addr} {sl_law_one_of : Array (Option Value)} {oc_law_one_of kV_law_one_of dc_law_one_of pm_law_one_of cd_law_one_of ct_law_one_of : Value}
    (a_law_one_of : PySem.W.nsIn K mainGlobals "_law_one_of" = some (some (.ref f_law_one_of))) (l_law_one_of : K.lookup f_law_one_of = some ⟨oc_law_one_of, od_law_one_of, .func (PySem.W.fnOf "_law_one_of" "_law_one_of" (defArgs s_law_one_of) (defBody s_law_one_of) (defScope s_law_one_of) .none kV_law_one_of dc_law_one_of pm_law_one_of an_law_one_of cd_law_one_of ct_law_one_of), sl_law_one_of⟩) (c_law_one_of : PySem.W.codeIn K cd_law_one_of "_law_one_of" = true) (k_law_one_of : PySem.W.keepIn K (.ref f_law_one_of) = true)
    {f_law_some : Addr} {od_law_some an_law_some : Option Addr} {sl_law_some : Array (Option Value)} {oc_law_some kV_law_some dc_law_some pm_law_some cd_law_some ct_law_some : Value}
    (a_law_some : PySem.W.nsIn K mainGlobals "_law_some" = some (some (.ref f_law_some))) (l_law_some : K.lookup f_law_some = some ⟨oc_law_some, od_law_some, .func (PySem.W.fnOf "_law_some" "_law_some" (defArgs s_law_some) (defBody s_law_some) (defScope s_law_some) .none kV_law_some dc_law_some pm_law_some an_law_some cd_law_some ct_law_some), sl_law_some⟩) (c_law_some : PySem.W.codeIn K cd_law_some "_law_some" = true) (k_law_some : PySem.W.keepIn K (.ref f_law_some) = true)
    {f_law_rule : Addr} {od_law_rule an_law_rule : Option Addr} {sl_law_rule : Array (Option Value)} {oc_law_rule kV_law_rule dc_law_rule pm_law_rule cd_law_rule ct_law_rule : Value}
    (a_law_rule : PySem.W.nsIn K mainGlobals "_law_rule" = some (some (.ref f_law_rule))) (l_law_rule : K.lookup f_law_rule = some ⟨oc_law_rule, od_law_rule, .func (PySem.W.fnOf "_law_rule" "_law_rule" (defArgs s_law_rule) (defBody s_law_rule) (defScope s_law_rule) .none kV_law_rule dc_law_rule pm_law_rule an_law_rule cd_law_rule ct_law_rule), sl_law_rule⟩) (c_law_rule : PySem.W.codeIn K cd_law_rule "_law_rule" = true) (k_law_rule : PySem.W.keepIn K (.ref f_law_rule) = true)
    {f_law_item : Addr} {od_law_item an_law_item : Option Addr} {sl_law_item : Array (Option Value)} {oc_law_item kV_law_item dc_law_item pm_law_item cd_law_item ct_law_item : Value}
    (a_law_item : PySem.W.nsIn K mainGlobals "_law_item" = some (some (.ref f_law_item))) (l_law_item : K.lookup f_law_item = some ⟨oc_law_item, od_law_item, .func (PySem.W.fnOf "_law_item" "_law_item" (defArgs s_law_item) (defBody s_law_item) (defScope s_law_item) .none kV_law_item dc_law_item pm_law_item an_law_item cd_law_item ct_law_item), sl_law_item⟩) (c_law_item : PySem.W.codeIn K cd_law_item "_law_item" = true) (k_law_item : PySem.W.keepIn K (.ref f_law_item) = true)
    {f_law_pattern : Addr} {od_law_pattern an_law_pattern : Option Addr} {sl_law_pattern : Array (Option Value)} {oc_law_pattern kV_law_pattern dc_law_pattern pm_law_pattern cd_law_pattern ct_law_pattern : Value}
    (a_law_pattern : PySem.W.nsIn K mainGlobals "_law_pattern" = some (some (.ref f_law_pattern))) (l_law_pattern : K.lookup f_law_pattern = some ⟨oc_law_pattern, od_law_pattern, .func (PySem.W.fnOf "_law_pattern" "_law_pattern" (defArgs s_law_pattern) (defBody s_law_pattern) (defScope s_law_pattern) .none kV_law_pattern dc_law_pattern pm_law_pattern an_law_pattern cd_law_pattern ct_law_pattern), sl_law_pattern⟩) (c_law_pattern : PySem.W.codeIn K cd_law_pattern "_law_pattern" = true) (k_law_pattern : PySem.W.keepIn K (.ref f_law_pattern) = true)
    {f_law_world : Addr} {od_law_world an_law_world : Option Addr} {sl_law_world : Array (Option Value)} {oc_law_world kV_law_world dc_law_world pm_law_world cd_law_world ct_law_world : Value}
    (a_law_world : PySem.W.nsIn K mainGlobals "_law_world" = some (some (.ref f_law_world))) (l_law_world : K.lookup f_law_world = some ⟨oc_law_world, od_law_world, .func (PySem.W.fnOf "_law_world" "_law_world" (defArgs s_law_world) (defBody s_law_world) (defScope s_law_world) .none kV_law_world dc_law_world pm_law_world an_law_world cd_law_world ct_law_world), sl_law_world⟩) (c_law_world : PySem.W.codeIn K cd_law_world "_law_world" = true) (k_law_world : PySem.W.keepIn K (.ref f_law_world) = true)
    {f_law_every : Addr} {od_law_every an_law_every : Option Addr} {sl_law_every : Array (Option Value)} {oc_law_every kV_law_every dc_law_every pm_law_every cd_law_every ct_law_every : Value}
    (a_law_every : PySem.W.nsIn K mainGlobals "_law_every" = some (some (.ref f_law_every))) (l_law_every : K.lookup f_law_every = some ⟨oc_law_every, od_law_every, .func (PySem.W.fnOf "_law_every" "_law_every" (defArgs s_law_every) (defBody s_law_every) (defScope s_law_every) .none kV_law_every dc_law_every pm_law_every an_law_every cd_law_every ct_law_every), sl_law_every⟩) (c_law_every : PySem.W.codeIn K cd_law_every "_law_every" = true) (k_law_every : PySem.W.keepIn K (.ref f_law_every) = true)
    {f_law_bent : Addr} {od_law_bent an_law_bent : Option Addr} {sl_law_bent : Array (Option Value)} {oc_law_bent kV_law_bent dc_law_bent pm_law_bent cd_law_bent ct_law_bent : Value}
    (a_law_bent : PySem.W.nsIn K mainGlobals "_law_bent" = some (some (.ref f_law_bent))) (l_law_bent : K.lookup f_law_bent = some ⟨oc_law_bent, od_law_bent, .func (PySem.W.fnOf "_law_bent" "_law_bent" (defArgs s_law_bent) (defBody s_law_bent) (defScope s_law_bent) .none kV_law_bent dc_law_bent pm_law_bent an_law_bent cd_law_bent ct_law_bent), sl_law_bent⟩) (c_law_bent : PySem.W.codeIn K cd_law_bent "_law_bent" = true) (k_law_bent : PySem.W.keepIn K (.ref f_law_bent) = true)
    {f_law_shape : Addr} {od_law_shape an_law_shape : Option Addr} {sl_law_shape : Array (Option Value)} {oc_law_shape kV_law_shape dc_law_shape pm_law_shape cd_law_shape ct_law_shape : Value}
    (a_law_shape : PySem.W.nsIn K mainGlobals "_law_shape" = some (some (.ref f_law_shape))) (l_law_shape : K.lookup f_law_shape = some ⟨oc_law_shape, od_law_shape, .func (PySem.W.fnOf "_law_shape" "_law_shape" (defArgs s_law_shape) (defBody s_law_shape) (defScope s_law_shape) .none kV_law_shape dc_law_shape pm_law_shape an_law_shape cd_law_shape ct_law_shape), sl_law_shape⟩) (c_law_shape : PySem.W.codeIn K cd_law_shape "_law_shape" = true) (k_law_shape : PySem.W.keepIn K (.ref f_law_shape) = true)
    {f_law_near : Addr} {od_law_near an_law_near : Option Addr} {sl_law_near : Array (Option Value)} {oc_law_near kV_law_near dc_law_near pm_law_near cd_law_near ct_law_near : Value}
    (a_law_near : PySem.W.nsIn K mainGlobals "_law_near" = some (some (.ref f_law_near))) (l_law_near : K.lookup f_law_near = some ⟨oc_law_near, od_law_near, .func (PySem.W.fnOf "_law_near" "_law_near" (defArgs s_law_near) (defBody s_law_near) (defScope s_law_near) .none kV_law_near dc_law_near pm_law_near an_law_near cd_law_near ct_law_near), sl_law_near⟩) (c_law_near : PySem.W.codeIn K cd_law_near "_law_near" = true) (k_law_near : PySem.W.keepIn K (.ref f_law_near) = true)
    {f_law_back : Addr} {od_law_back an_law_back : Option Addr} {sl_law_back : Array (Option Value)} {oc_law_back kV_law_back dc_law_back pm_law_back cd_law_back ct_law_back : Value}
    (a_law_back : PySem.W.nsIn K mainGlobals "_law_back" = some (some (.ref f_law_back))) (l_law_back : K.lookup f_law_back = some ⟨oc_law_back, od_law_back, .func (PySem.W.fnOf "_law_back" "_law_back" (defArgs s_law_back) (defBody s_law_back) (defScope s_law_back) .none kV_law_back dc_law_back pm_law_back an_law_back cd_law_back ct_law_back), sl_law_back⟩) (c_law_back : PySem.W.codeIn K cd_law_back "_law_back" = true) (k_law_back : PySem.W.keepIn K (.ref f_law_back) = true)
    {f_law : Addr} {od_law an_law : Option Addr} {sl_law : Array (Option Value)} {oc_law kV_law dc_law pm_law cd_law ct_law : Value}
    (a_law : PySem.W.nsIn K mainGlobals "law" = some (some (.ref f_law))) (l_law : K.lookup f_law = some ⟨oc_law, od_law, .func (PySem.W.fnOf "law" "law" (defArgs s_law) (defBody s_law) (defScope s_law) .none kV_law dc_law pm_law an_law cd_law ct_law), sl_law⟩) (c_law : PySem.W.codeIn K cd_law "law" = true) (k_law : PySem.W.keepIn K (.ref f_law) = true)
    (z_all : PySem.W.nsIn K mainGlobals "all" = some none)
    (z_any : PySem.W.nsIn K mainGlobals "any" = some none)
    (z_bool : PySem.W.nsIn K mainGlobals "bool" = some none)
    (z_enumerate : PySem.W.nsIn K mainGlobals "enumerate" = some none)
    (z_int : PySem.W.nsIn K mainGlobals "int" = some none)
    (z_isinstance : PySem.W.nsIn K mainGlobals "isinstance" = some none)
    (z_len : PySem.W.nsIn K mainGlobals "len" = some none)
    (z_list : PySem.W.nsIn K mainGlobals "list" = some none)
    (z_max : PySem.W.nsIn K mainGlobals "max" = some none)
    (z_min : PySem.W.nsIn K mainGlobals "min" = some none)
    (z_range : PySem.W.nsIn K mainGlobals "range" = some none)
    (z_set : PySem.W.nsIn K mainGlobals "set" = some none)
    (z_sorted : PySem.W.nsIn K mainGlobals "sorted" = some none)
    (z_str : PySem.W.nsIn K mainGlobals "str" = some none)
    (z_sum : PySem.W.nsIn K mainGlobals "sum" = some none)
    (z_tuple : PySem.W.nsIn K mainGlobals "tuple" = some none)
    (z_zip : PySem.W.nsIn K mainGlobals "zip" = some none)
    {t_MOST_ITEMS : Tok} (y_MOST_ITEMS : PySem.W.nsIn K mainGlobals "MOST_ITEMS" = some (some (.int 8 t_MOST_ITEMS)))
    {t_MOST_LETTERS : Tok} (y_MOST_LETTERS : PySem.W.nsIn K mainGlobals "MOST_LETTERS" = some (some (.int 5 t_MOST_LETTERS)))
    {a_HOWS : Addr} {od_HOWS : Option Addr} {it_HOWS : Array Value} {n_HOWS : Nat} {sl_HOWS : Array (Option Value)} (y_HOWS : PySem.W.nsIn K mainGlobals "HOWS" = some (some (.ref a_HOWS))) (l_HOWS : K.lookup a_HOWS = some ⟨.type "tuple", od_HOWS, .seq it_HOWS n_HOWS, sl_HOWS⟩) (v_HOWS : litS it_HOWS.toList ["all", "some"] = true)
    {a_RING_PLACES : Addr} {od_RING_PLACES : Option Addr} {it_RING_PLACES : Array Value} {n_RING_PLACES : Nat} {sl_RING_PLACES : Array (Option Value)} (y_RING_PLACES : PySem.W.nsIn K mainGlobals "RING_PLACES" = some (some (.ref a_RING_PLACES))) (l_RING_PLACES : K.lookup a_RING_PLACES = some ⟨.type "tuple", od_RING_PLACES, .seq it_RING_PLACES n_RING_PLACES, sl_RING_PLACES⟩) (v_RING_PLACES : litS it_RING_PLACES.toList ["others"] = true)
    {a_ROW_PLACES : Addr} {od_ROW_PLACES : Option Addr} {it_ROW_PLACES : Array Value} {n_ROW_PLACES : Nat} {sl_ROW_PLACES : Array (Option Value)} (y_ROW_PLACES : PySem.W.nsIn K mainGlobals "ROW_PLACES" = some (some (.ref a_ROW_PLACES))) (l_ROW_PLACES : K.lookup a_ROW_PLACES = some ⟨.type "tuple", od_ROW_PLACES, .seq it_ROW_PLACES n_ROW_PLACES, sl_ROW_PLACES⟩) (v_ROW_PLACES : litS it_ROW_PLACES.toList ["left", "right", "others"] = true)
    {a_SHAPES : Addr} {od_SHAPES : Option Addr} {it_SHAPES : Array Value} {n_SHAPES : Nat} {sl_SHAPES : Array (Option Value)} (y_SHAPES : PySem.W.nsIn K mainGlobals "SHAPES" = some (some (.ref a_SHAPES))) (l_SHAPES : K.lookup a_SHAPES = some ⟨.type "tuple", od_SHAPES, .seq it_SHAPES n_SHAPES, sl_SHAPES⟩) (v_SHAPES : litS it_SHAPES.toList ["row", "ring"] = true)
    {A_NoPattern : Addr} (y_NoPattern : PySem.W.nsIn K mainGlobals "NoPattern" = some (some (.ref A_NoPattern)))
    {A_NoWorld : Addr} (y_NoWorld : PySem.W.nsIn K mainGlobals "NoWorld" = some (some (.ref A_NoWorld)))
    (e_NoPattern : PySem.W.excIn K A_NoPattern [.type "ValueError", .type "Exception", .type "BaseException", .type "object"] "ValueError.__new__" = true)
    (k_NoPattern : PySem.W.keepIn K (.ref A_NoPattern) = true)
    (b_NoPattern : PySem.W.subIn K (.ref A_NoPattern) (.type "BaseException") = some true)
    (t_NoPattern : PySem.W.typeIn K (.ref A_NoPattern) = some (.type "type"))
    (h1_NoPattern : PySem.W.findIn K (.ref A_NoPattern) "__getattribute__" = some (some (.builtin "BaseException.__getattribute__")))
    (h2_NoPattern : PySem.W.findIn K (.ref A_NoPattern) "__getattr__" = some none)
    (h4_NoPattern : PySem.W.hasDictIn K A_NoPattern = true)
    (h5_NoPattern : PySem.W.findIn K (.ref A_NoPattern) "__class__" = some (some (.builtin "object.__class__")))
    (h6_NoPattern : PySem.W.specialIn K (.builtin "object.__class__") "__get__" = some (some (.builtin "getset_descriptor.__get__")))
    (h7_NoPattern : PySem.W.takesIn K (.builtin "object.__class__") = some true)
    (h8_NoPattern : PySem.W.mroIn K A_NoPattern (.type "object") = some true)
    (c1_NoPattern_NoPattern : PySem.W.subIn K (.ref A_NoPattern) (.type "BaseException") = some true)
    (c2_NoPattern_NoPattern : PySem.W.hasDictIn K A_NoPattern = true)
    (c3_NoPattern_NoPattern : PySem.W.typeIn K (.ref A_NoPattern) = some (.type "type"))
    (c4_NoPattern_NoPattern : PySem.W.subIn K (.ref A_NoPattern) (.ref A_NoPattern) = some true)
    (q_NoPattern_V : PySem.W.kitOne K (.ref A_NoPattern) (.type "ValueError") = some true)
    (e_NoWorld : PySem.W.excIn K A_NoWorld [.type "ValueError", .type "Exception", .type "BaseException", .type "object"] "ValueError.__new__" = true)
    (k_NoWorld : PySem.W.keepIn K (.ref A_NoWorld) = true)
    (b_NoWorld : PySem.W.subIn K (.ref A_NoWorld) (.type "BaseException") = some true)
    (t_NoWorld : PySem.W.typeIn K (.ref A_NoWorld) = some (.type "type"))
    (h1_NoWorld : PySem.W.findIn K (.ref A_NoWorld) "__getattribute__" = some (some (.builtin "BaseException.__getattribute__")))
    (h2_NoWorld : PySem.W.findIn K (.ref A_NoWorld) "__getattr__" = some none)
    (h4_NoWorld : PySem.W.hasDictIn K A_NoWorld = true)
    (h5_NoWorld : PySem.W.findIn K (.ref A_NoWorld) "__class__" = some (some (.builtin "object.__class__")))
    (h6_NoWorld : PySem.W.specialIn K (.builtin "object.__class__") "__get__" = some (some (.builtin "getset_descriptor.__get__")))
    (h7_NoWorld : PySem.W.takesIn K (.builtin "object.__class__") = some true)
    (h8_NoWorld : PySem.W.mroIn K A_NoWorld (.type "object") = some true)
    (c1_NoWorld_NoWorld : PySem.W.subIn K (.ref A_NoWorld) (.type "BaseException") = some true)
    (c2_NoWorld_NoWorld : PySem.W.hasDictIn K A_NoWorld = true)
    (c3_NoWorld_NoWorld : PySem.W.typeIn K (.ref A_NoWorld) = some (.type "type"))
    (c4_NoWorld_NoWorld : PySem.W.subIn K (.ref A_NoWorld) (.ref A_NoWorld) = some true)
    (q_NoWorld_V : PySem.W.kitOne K (.ref A_NoWorld) (.type "ValueError") = some true)
    : LamX.LawAtS l w K CX0 12 63 "script" mg fa h := by
  have e := hfa.symm.trans (PySem.W.mg_of X G a_law)
  cases e
  have F_built := fun_mk (st := s_built) l_built c_built k_built
  have F_walked := fun_mk (st := s_walked) l_walked c_walked k_walked
  have F_parted := fun_mk (st := s_parted) l_parted c_parted k_parted
  have F_first_groups := fun_mk (st := s_first_groups) l_first_groups c_first_groups k_first_groups
  have F_ways_back := fun_mk (st := s_ways_back) l_ways_back c_ways_back k_ways_back
  have F_hits_of := fun_mk (st := s_hits_of) l_hits_of c_hits_of k_hits_of
  have F_split_group := fun_mk (st := s_split_group) l_split_group c_split_group k_split_group
  have F_merged := fun_mk (st := s_merged) l_merged c_merged k_merged
  have F_is_letters := fun_mk (st := s_is_letters) l_is_letters c_is_letters k_is_letters
  have F_rises := fun_mk (st := s_rises) l_rises c_rises k_rises
  have F_has := fun_mk (st := s_has) l_has c_has k_has
  have F_machine_of := fun_mk (st := s_machine_of) l_machine_of c_machine_of k_machine_of
  have F_branches_of := fun_mk (st := s_branches_of) l_branches_of c_branches_of k_branches_of
  have F_items_of := fun_mk (st := s_items_of) l_items_of c_items_of k_items_of
  have F_choice_at := fun_mk (st := s_choice_at) l_choice_at c_choice_at k_choice_at
  have F_bracket_at := fun_mk (st := s_bracket_at) l_bracket_at c_bracket_at k_bracket_at
  have F_mark_at := fun_mk (st := s_mark_at) l_mark_at c_mark_at k_mark_at
  have F_places_of := fun_mk (st := s_places_of) l_places_of c_places_of k_places_of
  have F_read := fun_mk (st := s_read) l_read c_read k_read
  have F_let_on := fun_mk (st := s_let_on) l_let_on c_let_on k_let_on
  have F_is_world := fun_mk (st := s_is_world) l_is_world c_is_world k_is_world
  have F_is_one_of := fun_mk (st := s_is_one_of) l_is_one_of c_is_one_of k_is_one_of
  have F_is_of_hands := fun_mk (st := s_is_of_hands) l_is_of_hands c_is_of_hands k_is_of_hands
  have F_is_rule := fun_mk (st := s_is_rule) l_is_rule c_is_rule k_is_rule
  have F_is_letter := fun_mk (st := s_is_letter) l_is_letter c_is_letter k_is_letter
  have F_is_guard := fun_mk (st := s_is_guard) l_is_guard c_is_guard k_is_guard
  have F_is_image := fun_mk (st := s_is_image) l_is_image c_is_image k_is_image
  have F_is_text_of := fun_mk (st := s_is_text_of) l_is_text_of c_is_text_of k_is_text_of
  have F_show_world := fun_mk (st := s_show_world) l_show_world c_show_world k_show_world
  have F_show_rule := fun_mk (st := s_show_rule) l_show_rule c_show_rule k_show_rule
  have F_read_world := fun_mk (st := s_read_world) l_read_world c_read_world k_read_world
  have F_behind_blank := fun_mk (st := s_behind_blank) l_behind_blank c_behind_blank k_behind_blank
  have F_read_rule := fun_mk (st := s_read_rule) l_read_rule c_read_rule k_read_rule
  have F_law_well := fun_mk (st := s_law_well) l_law_well c_law_well k_law_well
  have F_law_draw := fun_mk (st := s_law_draw) l_law_draw c_law_draw k_law_draw
  have F_law_same := fun_mk (st := s_law_same) l_law_same c_law_same k_law_same
  have F_law_letters := fun_mk (st := s_law_letters) l_law_letters c_law_letters k_law_letters
  have F_law_one_of := fun_mk (st := s_law_one_of) l_law_one_of c_law_one_of k_law_one_of
  have F_law_some := fun_mk (st := s_law_some) l_law_some c_law_some k_law_some
  have F_law_rule := fun_mk (st := s_law_rule) l_law_rule c_law_rule k_law_rule
  have F_law_item := fun_mk (st := s_law_item) l_law_item c_law_item k_law_item
  have F_law_pattern := fun_mk (st := s_law_pattern) l_law_pattern c_law_pattern k_law_pattern
  have F_law_world := fun_mk (st := s_law_world) l_law_world c_law_world k_law_world
  have F_law_every := fun_mk (st := s_law_every) l_law_every c_law_every k_law_every
  have F_law_bent := fun_mk (st := s_law_bent) l_law_bent c_law_bent k_law_bent
  have F_law_shape := fun_mk (st := s_law_shape) l_law_shape c_law_shape k_law_shape
  have F_law_near := fun_mk (st := s_law_near) l_law_near c_law_near k_law_near
  have F_law_back := fun_mk (st := s_law_back) l_law_back c_law_back k_law_back
  have F_law := fun_mk (st := s_law) l_law c_law k_law
  let T : TX K mg := {
    a_built := f_built, fd_built := _, F_built := F_built, b_built := F_built.binds (ps := ["letters", "start", "follow", "is_end"]) (fun _ _ _ _ _ _ us hl => match us, hl with | [_, _, _, _], _ => rfl), g_built := PySem.W.mg_of X G a_built,
    a_walked := f_walked, fd_walked := _, F_walked := F_walked, b_walked := F_walked.binds (ps := ["start", "follow"]) (fun _ _ _ _ _ _ us hl => match us, hl with | [_, _], _ => rfl), g_walked := PySem.W.mg_of X G a_walked,
    a_parted := f_parted, fd_parted := _, F_parted := F_parted, b_parted := F_parted.binds (ps := ["table", "ended"]) (fun _ _ _ _ _ _ us hl => match us, hl with | [_, _], _ => rfl), g_parted := PySem.W.mg_of X G a_parted,
    a_first_groups := f_first_groups, fd_first_groups := _, F_first_groups := F_first_groups, b_first_groups := F_first_groups.binds (ps := ["ended"]) (fun _ _ _ _ _ _ us hl => match us, hl with | [_], _ => rfl), g_first_groups := PySem.W.mg_of X G a_first_groups,
    a_ways_back := f_ways_back, fd_ways_back := _, F_ways_back := F_ways_back, b_ways_back := F_ways_back.binds (ps := ["table"]) (fun _ _ _ _ _ _ us hl => match us, hl with | [_], _ => rfl), g_ways_back := PySem.W.mg_of X G a_ways_back,
    a_hits_of := f_hits_of, fd_hits_of := _, F_hits_of := F_hits_of, b_hits_of := F_hits_of.binds (ps := ["back", "targets", "homes"]) (fun _ _ _ _ _ _ us hl => match us, hl with | [_, _, _], _ => rfl), g_hits_of := PySem.W.mg_of X G a_hits_of,
    a_split_group := f_split_group, fd_split_group := _, F_split_group := F_split_group, b_split_group := F_split_group.binds (ps := ["groups", "homes", "home", "hit"]) (fun _ _ _ _ _ _ us hl => match us, hl with | [_, _, _, _], _ => rfl), g_split_group := PySem.W.mg_of X G a_split_group,
    a_merged := f_merged, fd_merged := _, F_merged := F_merged, b_merged := F_merged.binds (ps := ["letters", "table", "ended", "homes"]) (fun _ _ _ _ _ _ us hl => match us, hl with | [_, _, _, _], _ => rfl), g_merged := PySem.W.mg_of X G a_merged,
    a_is_letters := f_is_letters, fd_is_letters := _, F_is_letters := F_is_letters, b_is_letters := F_is_letters.binds (ps := ["thing"]) (fun _ _ _ _ _ _ us hl => match us, hl with | [_], _ => rfl), g_is_letters := PySem.W.mg_of X G a_is_letters,
    a_rises := f_rises, fd_rises := _, F_rises := F_rises, b_rises := F_rises.binds (ps := ["row"]) (fun _ _ _ _ _ _ us hl => match us, hl with | [_], _ => rfl), g_rises := PySem.W.mg_of X G a_rises,
    a_has := f_has, fd_has := _, F_has := F_has, b_has := F_has.binds (ps := ["machine", "word"]) (fun _ _ _ _ _ _ us hl => match us, hl with | [_, _], _ => rfl), g_has := PySem.W.mg_of X G a_has,
    a_machine_of := f_machine_of, fd_machine_of := _, F_machine_of := F_machine_of, b_machine_of := F_machine_of.binds (ps := ["letters", "pattern"]) (fun _ _ _ _ _ _ us hl => match us, hl with | [_, _], _ => rfl), g_machine_of := PySem.W.mg_of X G a_machine_of,
    a_branches_of := f_branches_of, fd_branches_of := _, F_branches_of := F_branches_of, b_branches_of := F_branches_of.binds (ps := ["letters", "pattern"]) (fun _ _ _ _ _ _ us hl => match us, hl with | [_, _], _ => rfl), g_branches_of := PySem.W.mg_of X G a_branches_of,
    a_items_of := f_items_of, fd_items_of := _, F_items_of := F_items_of, b_items_of := F_items_of.binds (ps := ["letters", "branch"]) (fun _ _ _ _ _ _ us hl => match us, hl with | [_, _], _ => rfl), g_items_of := PySem.W.mg_of X G a_items_of,
    a_choice_at := f_choice_at, fd_choice_at := _, F_choice_at := F_choice_at, b_choice_at := F_choice_at.binds (ps := ["letters", "branch", "at"]) (fun _ _ _ _ _ _ us hl => match us, hl with | [_, _, _], _ => rfl), g_choice_at := PySem.W.mg_of X G a_choice_at,
    a_bracket_at := f_bracket_at, fd_bracket_at := _, F_bracket_at := F_bracket_at, b_bracket_at := F_bracket_at.binds (ps := ["letters", "branch", "at"]) (fun _ _ _ _ _ _ us hl => match us, hl with | [_, _, _], _ => rfl), g_bracket_at := PySem.W.mg_of X G a_bracket_at,
    a_mark_at := f_mark_at, fd_mark_at := _, F_mark_at := F_mark_at, b_mark_at := F_mark_at.binds (ps := ["branch", "at"]) (fun _ _ _ _ _ _ us hl => match us, hl with | [_, _], _ => rfl), g_mark_at := PySem.W.mg_of X G a_mark_at,
    a_places_of := f_places_of, fd_places_of := _, F_places_of := F_places_of, b_places_of := F_places_of.binds (ps := ["branches"]) (fun _ _ _ _ _ _ us hl => match us, hl with | [_], _ => rfl), g_places_of := PySem.W.mg_of X G a_places_of,
    a_read := f_read, fd_read := _, F_read := F_read, b_read := F_read.binds (ps := ["places", "held", "letter"]) (fun _ _ _ _ _ _ us hl => match us, hl with | [_, _, _], _ => rfl), g_read := PySem.W.mg_of X G a_read,
    a_let_on := f_let_on, fd_let_on := _, F_let_on := F_let_on, b_let_on := F_let_on.binds (ps := ["places", "numbers"]) (fun _ _ _ _ _ _ us hl => match us, hl with | [_, _], _ => rfl), g_let_on := PySem.W.mg_of X G a_let_on,
    a_is_world := f_is_world, fd_is_world := _, F_is_world := F_is_world, b_is_world := F_is_world.binds (ps := ["thing"]) (fun _ _ _ _ _ _ us hl => match us, hl with | [_], _ => rfl), g_is_world := PySem.W.mg_of X G a_is_world,
    a_is_one_of := f_is_one_of, fd_is_one_of := _, F_is_one_of := F_is_one_of, b_is_one_of := F_is_one_of.binds (ps := ["thing", "texts"]) (fun _ _ _ _ _ _ us hl => match us, hl with | [_, _], _ => rfl), g_is_one_of := PySem.W.mg_of X G a_is_one_of,
    a_is_of_hands := f_is_of_hands, fd_is_of_hands := _, F_is_of_hands := F_is_of_hands, b_is_of_hands := F_is_of_hands.binds (ps := ["letters", "thing"]) (fun _ _ _ _ _ _ us hl => match us, hl with | [_, _], _ => rfl), g_is_of_hands := PySem.W.mg_of X G a_is_of_hands,
    a_is_rule := f_is_rule, fd_is_rule := _, F_is_rule := F_is_rule, b_is_rule := F_is_rule.binds (ps := ["letters", "shape", "thing"]) (fun _ _ _ _ _ _ us hl => match us, hl with | [_, _, _], _ => rfl), g_is_rule := PySem.W.mg_of X G a_is_rule,
    a_is_letter := f_is_letter, fd_is_letter := _, F_is_letter := F_is_letter, b_is_letter := F_is_letter.binds (ps := ["letters", "thing"]) (fun _ _ _ _ _ _ us hl => match us, hl with | [_, _], _ => rfl), g_is_letter := PySem.W.mg_of X G a_is_letter,
    a_is_guard := f_is_guard, fd_is_guard := _, F_is_guard := F_is_guard, b_is_guard := F_is_guard.binds (ps := ["letters", "shape", "thing"]) (fun _ _ _ _ _ _ us hl => match us, hl with | [_, _, _], _ => rfl), g_is_guard := PySem.W.mg_of X G a_is_guard,
    a_is_image := f_is_image, fd_is_image := _, F_is_image := F_is_image, b_is_image := F_is_image.binds (ps := ["letters", "thing"]) (fun _ _ _ _ _ _ us hl => match us, hl with | [_, _], _ => rfl), g_is_image := PySem.W.mg_of X G a_is_image,
    a_is_text_of := f_is_text_of, fd_is_text_of := _, F_is_text_of := F_is_text_of, b_is_text_of := F_is_text_of.binds (ps := ["letters", "thing"]) (fun _ _ _ _ _ _ us hl => match us, hl with | [_, _], _ => rfl), g_is_text_of := PySem.W.mg_of X G a_is_text_of,
    a_show_world := f_show_world, fd_show_world := _, F_show_world := F_show_world, b_show_world := F_show_world.binds (ps := ["world"]) (fun _ _ _ _ _ _ us hl => match us, hl with | [_], _ => rfl), g_show_world := PySem.W.mg_of X G a_show_world,
    a_show_rule := f_show_rule, fd_show_rule := _, F_show_rule := F_show_rule, b_show_rule := F_show_rule.binds (ps := ["rule"]) (fun _ _ _ _ _ _ us hl => match us, hl with | [_], _ => rfl), g_show_rule := PySem.W.mg_of X G a_show_rule,
    a_read_world := f_read_world, fd_read_world := _, F_read_world := F_read_world, b_read_world := F_read_world.binds (ps := ["text"]) (fun _ _ _ _ _ _ us hl => match us, hl with | [_], _ => rfl), g_read_world := PySem.W.mg_of X G a_read_world,
    a_behind_blank := f_behind_blank, fd_behind_blank := _, F_behind_blank := F_behind_blank, b_behind_blank := F_behind_blank.binds (ps := ["line"]) (fun _ _ _ _ _ _ us hl => match us, hl with | [_], _ => rfl), g_behind_blank := PySem.W.mg_of X G a_behind_blank,
    a_read_rule := f_read_rule, fd_read_rule := _, F_read_rule := F_read_rule, b_read_rule := F_read_rule.binds (ps := ["line"]) (fun _ _ _ _ _ _ us hl => match us, hl with | [_], _ => rfl), g_read_rule := PySem.W.mg_of X G a_read_rule,
    a_law_well := f_law_well, fd_law_well := _, F_law_well := F_law_well, b_law_well := F_law_well.binds (ps := ["cell"]) (fun _ _ _ _ _ _ us hl => match us, hl with | [_], _ => rfl), g_law_well := PySem.W.mg_of X G a_law_well,
    a_law_draw := f_law_draw, fd_law_draw := _, F_law_draw := F_law_draw, b_law_draw := F_law_draw.binds (ps := ["well", "many"]) (fun _ _ _ _ _ _ us hl => match us, hl with | [_, _], _ => rfl), g_law_draw := PySem.W.mg_of X G a_law_draw,
    a_law_same := f_law_same, fd_law_same := _, F_law_same := F_law_same, b_law_same := F_law_same.binds (ps := ["got", "due"]) (fun _ _ _ _ _ _ us hl => match us, hl with | [_, _], _ => rfl), g_law_same := PySem.W.mg_of X G a_law_same,
    a_law_letters := f_law_letters, fd_law_letters := _, F_law_letters := F_law_letters, b_law_letters := F_law_letters.binds (ps := ["well"]) (fun _ _ _ _ _ _ us hl => match us, hl with | [_], _ => rfl), g_law_letters := PySem.W.mg_of X G a_law_letters,
    a_law_one_of := f_law_one_of, fd_law_one_of := _, F_law_one_of := F_law_one_of, b_law_one_of := F_law_one_of.binds (ps := ["well", "letters"]) (fun _ _ _ _ _ _ us hl => match us, hl with | [_, _], _ => rfl), g_law_one_of := PySem.W.mg_of X G a_law_one_of,
    a_law_some := f_law_some, fd_law_some := _, F_law_some := F_law_some, b_law_some := F_law_some.binds (ps := ["well", "letters"]) (fun _ _ _ _ _ _ us hl => match us, hl with | [_, _], _ => rfl), g_law_some := PySem.W.mg_of X G a_law_some,
    a_law_rule := f_law_rule, fd_law_rule := _, F_law_rule := F_law_rule, b_law_rule := F_law_rule.binds (ps := ["well", "letters", "shape", "kind"]) (fun _ _ _ _ _ _ us hl => match us, hl with | [_, _, _, _], _ => rfl), g_law_rule := PySem.W.mg_of X G a_law_rule,
    a_law_item := f_law_item, fd_law_item := _, F_law_item := F_law_item, b_law_item := F_law_item.binds (ps := ["well", "letters"]) (fun _ _ _ _ _ _ us hl => match us, hl with | [_, _], _ => rfl), g_law_item := PySem.W.mg_of X G a_law_item,
    a_law_pattern := f_law_pattern, fd_law_pattern := _, F_law_pattern := F_law_pattern, b_law_pattern := F_law_pattern.binds (ps := ["well", "letters"]) (fun _ _ _ _ _ _ us hl => match us, hl with | [_, _], _ => rfl), g_law_pattern := PySem.W.mg_of X G a_law_pattern,
    a_law_world := f_law_world, fd_law_world := _, F_law_world := F_law_world, b_law_world := F_law_world.binds (ps := ["well"]) (fun _ _ _ _ _ _ us hl => match us, hl with | [_], _ => rfl), g_law_world := PySem.W.mg_of X G a_law_world,
    a_law_every := f_law_every, fd_law_every := _, F_law_every := F_law_every, b_law_every := F_law_every.binds (ps := []) (fun _ _ _ _ _ _ us hl => match us, hl with | [], _ => rfl), g_law_every := PySem.W.mg_of X G a_law_every,
    a_law_bent := f_law_bent, fd_law_bent := _, F_law_bent := F_law_bent, b_law_bent := F_law_bent.binds (ps := ["well", "text"]) (fun _ _ _ _ _ _ us hl => match us, hl with | [_, _], _ => rfl), g_law_bent := PySem.W.mg_of X G a_law_bent,
    a_law_shape := f_law_shape, fd_law_shape := _, F_law_shape := F_law_shape, b_law_shape := F_law_shape.binds (ps := ["world", "shape"]) (fun _ _ _ _ _ _ us hl => match us, hl with | [_, _], _ => rfl), g_law_shape := PySem.W.mg_of X G a_law_shape,
    a_law_near := f_law_near, fd_law_near := _, F_law_near := F_law_near, b_law_near := F_law_near.binds (ps := ["well", "world"]) (fun _ _ _ _ _ _ us hl => match us, hl with | [_, _], _ => rfl), g_law_near := PySem.W.mg_of X G a_law_near,
    a_law_back := f_law_back, fd_law_back := _, F_law_back := F_law_back, b_law_back := F_law_back.binds (ps := ["text"]) (fun _ _ _ _ _ _ us hl => match us, hl with | [_], _ => rfl), g_law_back := PySem.W.mg_of X G a_law_back,
    m_all := PySem.W.mg_none_of X G z_all,
    m_any := PySem.W.mg_none_of X G z_any,
    m_bool := PySem.W.mg_none_of X G z_bool,
    m_enumerate := PySem.W.mg_none_of X G z_enumerate,
    m_int := PySem.W.mg_none_of X G z_int,
    m_isinstance := PySem.W.mg_none_of X G z_isinstance,
    m_len := PySem.W.mg_none_of X G z_len,
    m_list := PySem.W.mg_none_of X G z_list,
    m_max := PySem.W.mg_none_of X G z_max,
    m_min := PySem.W.mg_none_of X G z_min,
    m_range := PySem.W.mg_none_of X G z_range,
    m_set := PySem.W.mg_none_of X G z_set,
    m_sorted := PySem.W.mg_none_of X G z_sorted,
    m_str := PySem.W.mg_none_of X G z_str,
    m_sum := PySem.W.mg_none_of X G z_sum,
    m_tuple := PySem.W.mg_none_of X G z_tuple,
    m_zip := PySem.W.mg_none_of X G z_zip,
    t_MOST_ITEMS := t_MOST_ITEMS, c_MOST_ITEMS := PySem.W.mg_of X G y_MOST_ITEMS,
    t_MOST_LETTERS := t_MOST_LETTERS, c_MOST_LETTERS := PySem.W.mg_of X G y_MOST_LETTERS,
    a_HOWS := a_HOWS, c_HOWS := PySem.W.mg_of X G y_HOWS, k_HOWS := constT_mk l_HOWS v_HOWS,
    a_RING_PLACES := a_RING_PLACES, c_RING_PLACES := PySem.W.mg_of X G y_RING_PLACES, k_RING_PLACES := constT_mk l_RING_PLACES v_RING_PLACES,
    a_ROW_PLACES := a_ROW_PLACES, c_ROW_PLACES := PySem.W.mg_of X G y_ROW_PLACES, k_ROW_PLACES := constT_mk l_ROW_PLACES v_ROW_PLACES,
    a_SHAPES := a_SHAPES, c_SHAPES := PySem.W.mg_of X G y_SHAPES, k_SHAPES := constT_mk l_SHAPES v_SHAPES,
    A_NoPattern := A_NoPattern, x_NoPattern := PySem.W.mg_of X G y_NoPattern,
    A_NoWorld := A_NoWorld, x_NoWorld := PySem.W.mg_of X G y_NoWorld,
    e_NoPattern := e_NoPattern,
    k_NoPattern := k_NoPattern,
    b_NoPattern := b_NoPattern,
    t_NoPattern := t_NoPattern,
    h1_NoPattern := h1_NoPattern,
    h2_NoPattern := h2_NoPattern,
    h4_NoPattern := h4_NoPattern,
    h5_NoPattern := h5_NoPattern,
    h6_NoPattern := h6_NoPattern,
    h7_NoPattern := h7_NoPattern,
    h8_NoPattern := h8_NoPattern,
    c1_NoPattern_NoPattern := c1_NoPattern_NoPattern,
    c2_NoPattern_NoPattern := c2_NoPattern_NoPattern,
    c3_NoPattern_NoPattern := c3_NoPattern_NoPattern,
    c4_NoPattern_NoPattern := c4_NoPattern_NoPattern,
    q_NoPattern_V := q_NoPattern_V,
    e_NoWorld := e_NoWorld,
    k_NoWorld := k_NoWorld,
    b_NoWorld := b_NoWorld,
    t_NoWorld := t_NoWorld,
    h1_NoWorld := h1_NoWorld,
    h2_NoWorld := h2_NoWorld,
    h4_NoWorld := h4_NoWorld,
    h5_NoWorld := h5_NoWorld,
    h6_NoWorld := h6_NoWorld,
    h7_NoWorld := h7_NoWorld,
    h8_NoWorld := h8_NoWorld,
    c1_NoWorld_NoWorld := c1_NoWorld_NoWorld,
    c2_NoWorld_NoWorld := c2_NoWorld_NoWorld,
    c3_NoWorld_NoWorld := c3_NoWorld_NoWorld,
    c4_NoWorld_NoWorld := c4_NoWorld_NoWorld,
    q_NoWorld_V := q_NoWorld_V }
  refine ⟨PySem.W.fnOf "law" "law" (defArgs s_law) (defBody s_law) (defScope s_law) .none kV_law dc_law pm_law an_law cd_law ct_law, [(cr_machine_of, pt_machine_of)], sp_law K [(pt_machine_of, nm_machine_of)], (fun p hp => by
      simp only [List.mem_cons, List.mem_nil_iff, or_false] at hp
      rcases hp with rfl
      · exact e_machine_of), (fun p hp => by
      simp only [List.mem_cons, List.mem_nil_iff, or_false] at hp
      rcases hp with rfl
      · exact n_machine_of), (fun p hp => by
      simp only [List.mem_cons, List.mem_nil_iff, or_false] at hp
      rcases hp with rfl
      · exact PySem.W.codeHd_of_K X h_machine_of), fun s v => .of_eq rfl, fun H a ns hl _ ht hS => ⟨a, ns, rfl, hS, hl, (fun p hp => by
      simp only [List.mem_cons, List.mem_nil_iff, or_false] at hp
      rcases hp with rfl
      · exact NdefX.TabN.nil (ht (cr_machine_of, pt_machine_of) (by simp))), fun _ => rfl⟩, fun base _ _ tB => ?_⟩
  have C_machine_of : FunC K "machine_of" "machine_of" s_machine_of T.a_machine_of T.fd_machine_of cr_machine_of := ⟨_, _, _, _, _, _, _, _, rfl, l_machine_of, c_machine_of⟩
  have G_machine_of := ok_machine_of (P := l.prog) (w := w) (base := base) T (tabs := [(pt_machine_of, nm_machine_of)]) C_machine_of (tB (cr_machine_of, pt_machine_of) (by simp)) (by simp) (fun p hp hpe => by
    simp only [List.mem_cons, List.mem_nil_iff, or_false] at hp
    rcases hp with rfl
    · rfl)
  exact ok_law F_law T G_machine_of
end LH
open PySem PySem.W PyProof.Rows
set_option maxHeartbeats 0 in
theorem PySem.Challenge.cw_likehands_k16_whole_one_text_one_world_holds : PySem.Challenge.rw_likehands_k16_whole_one_text_one_world.Holds := by
  w_on; o_law; k_head; (case hw => w_witness2)
  k_fill
  refine LamX.walk_ofTs (l := PySem.Challenge.rw_likehands_k16_whole_one_text_one_world) (n := 63) (k := 12) (x := "script") (CX := fun _ => L2.CX0) rfl (by decide) rfl ⟨rfl, by decide, by decide⟩ (fun w h Y => PySem.W.km_in_of Y) ?F (fun _ _ _ _ _ h => h)
  case F =>
    intro w mg fa h Y KX G hmg
    have tt := PySem.W.km_tabs_of Y
    refine' LH.all_mk KX G hmg ?a_built ?l_built ?c_built ?k_built ?a_walked ?l_walked ?c_walked ?k_walked ?a_parted ?l_parted ?c_parted ?k_parted ?a_first_groups ?l_first_groups ?c_first_groups ?k_first_groups ?a_ways_back ?l_ways_back ?c_ways_back ?k_ways_back ?a_hits_of ?l_hits_of ?c_hits_of ?k_hits_of ?a_split_group ?l_split_group ?c_split_group ?k_split_group ?a_merged ?l_merged ?c_merged ?k_merged ?a_is_letters ?l_is_letters ?c_is_letters ?k_is_letters ?a_rises ?l_rises ?c_rises ?k_rises ?a_has ?l_has ?c_has ?k_has ?a_machine_of ?l_machine_of ?c_machine_of ?k_machine_of ?h_machine_of ?n_machine_of (tt 114 (by simp)) ?a_branches_of ?l_branches_of ?c_branches_of ?k_branches_of ?a_items_of ?l_items_of ?c_items_of ?k_items_of ?a_choice_at ?l_choice_at ?c_choice_at ?k_choice_at ?a_bracket_at ?l_bracket_at ?c_bracket_at ?k_bracket_at ?a_mark_at ?l_mark_at ?c_mark_at ?k_mark_at ?a_places_of ?l_places_of ?c_places_of ?k_places_of ?a_read ?l_read ?c_read ?k_read ?a_let_on ?l_let_on ?c_let_on ?k_let_on ?a_is_world ?l_is_world ?c_is_world ?k_is_world ?a_is_one_of ?l_is_one_of ?c_is_one_of ?k_is_one_of ?a_is_of_hands ?l_is_of_hands ?c_is_of_hands ?k_is_of_hands ?a_is_rule ?l_is_rule ?c_is_rule ?k_is_rule ?a_is_letter ?l_is_letter ?c_is_letter ?k_is_letter ?a_is_guard ?l_is_guard ?c_is_guard ?k_is_guard ?a_is_image ?l_is_image ?c_is_image ?k_is_image ?a_is_text_of ?l_is_text_of ?c_is_text_of ?k_is_text_of ?a_show_world ?l_show_world ?c_show_world ?k_show_world ?a_show_rule ?l_show_rule ?c_show_rule ?k_show_rule ?a_read_world ?l_read_world ?c_read_world ?k_read_world ?a_behind_blank ?l_behind_blank ?c_behind_blank ?k_behind_blank ?a_read_rule ?l_read_rule ?c_read_rule ?k_read_rule ?a_law_well ?l_law_well ?c_law_well ?k_law_well ?a_law_draw ?l_law_draw ?c_law_draw ?k_law_draw ?a_law_same ?l_law_same ?c_law_same ?k_law_same ?a_law_letters ?l_law_letters ?c_law_letters ?k_law_letters ?a_law_one_of ?l_law_one_of ?c_law_one_of ?k_law_one_of ?a_law_some ?l_law_some ?c_law_some ?k_law_some ?a_law_rule ?l_law_rule ?c_law_rule ?k_law_rule ?a_law_item ?l_law_item ?c_law_item ?k_law_item ?a_law_pattern ?l_law_pattern ?c_law_pattern ?k_law_pattern ?a_law_world ?l_law_world ?c_law_world ?k_law_world ?a_law_every ?l_law_every ?c_law_every ?k_law_every ?a_law_bent ?l_law_bent ?c_law_bent ?k_law_bent ?a_law_shape ?l_law_shape ?c_law_shape ?k_law_shape ?a_law_near ?l_law_near ?c_law_near ?k_law_near ?a_law_back ?l_law_back ?c_law_back ?k_law_back ?a_law ?l_law ?c_law ?k_law ?z_all ?z_any ?z_bool ?z_enumerate ?z_int ?z_isinstance ?z_len ?z_list ?z_max ?z_min ?z_range ?z_set ?z_sorted ?z_str ?z_sum ?z_tuple ?z_zip ?y_MOST_ITEMS ?y_MOST_LETTERS ?y_HOWS ?l_HOWS ?v_HOWS ?y_RING_PLACES ?l_RING_PLACES ?v_RING_PLACES ?y_ROW_PLACES ?l_ROW_PLACES ?v_ROW_PLACES ?y_SHAPES ?l_SHAPES ?v_SHAPES ?y_NoPattern ?y_NoWorld ?e_NoPattern ?k_NoPattern ?b_NoPattern ?t_NoPattern ?h1_NoPattern ?h2_NoPattern ?h4_NoPattern ?h5_NoPattern ?h6_NoPattern ?h7_NoPattern ?h8_NoPattern ?c1_NoPattern_NoPattern ?c2_NoPattern_NoPattern ?c3_NoPattern_NoPattern ?c4_NoPattern_NoPattern ?q_NoPattern_V ?e_NoWorld ?k_NoWorld ?b_NoWorld ?t_NoWorld ?h1_NoWorld ?h2_NoWorld ?h4_NoWorld ?h5_NoWorld ?h6_NoWorld ?h7_NoWorld ?h8_NoWorld ?c1_NoWorld_NoWorld ?c2_NoWorld_NoWorld ?c3_NoWorld_NoWorld ?c4_NoWorld_NoWorld ?q_NoWorld_V
    (case a_built => k_is)
    (case l_built => k_is)
    (case c_built => k_is)
    (case k_built => k_is)
    (case a_walked => k_is)
    (case l_walked => k_is)
    (case c_walked => k_is)
    (case k_walked => k_is)
    (case a_parted => k_is)
    (case l_parted => k_is)
    (case c_parted => k_is)
    (case k_parted => k_is)
    (case a_first_groups => k_is)
    (case l_first_groups => k_is)
    (case c_first_groups => k_is)
    (case k_first_groups => k_is)
    (case a_ways_back => k_is)
    (case l_ways_back => k_is)
    (case c_ways_back => k_is)
    (case k_ways_back => k_is)
    (case a_hits_of => k_is)
    (case l_hits_of => k_is)
    (case c_hits_of => k_is)
    (case k_hits_of => k_is)
    (case a_split_group => k_is)
    (case l_split_group => k_is)
    (case c_split_group => k_is)
    (case k_split_group => k_is)
    (case a_merged => k_is)
    (case l_merged => k_is)
    (case c_merged => k_is)
    (case k_merged => k_is)
    (case a_is_letters => k_is)
    (case l_is_letters => k_is)
    (case c_is_letters => k_is)
    (case k_is_letters => k_is)
    (case a_rises => k_is)
    (case l_rises => k_is)
    (case c_rises => k_is)
    (case k_rises => k_is)
    (case a_has => k_is)
    (case l_has => k_is)
    (case c_has => k_is)
    (case k_has => k_is)
    (case a_machine_of => k_is)
    (case l_machine_of => k_is)
    (case c_machine_of => k_is)
    (case k_machine_of => k_is)
    (case h_machine_of => first | kernel_rfl | rfl | decide +kernel)
    (case n_machine_of => first | kernel_rfl | rfl | decide +kernel)
    (case a_branches_of => k_is)
    (case l_branches_of => k_is)
    (case c_branches_of => k_is)
    (case k_branches_of => k_is)
    (case a_items_of => k_is)
    (case l_items_of => k_is)
    (case c_items_of => k_is)
    (case k_items_of => k_is)
    (case a_choice_at => k_is)
    (case l_choice_at => k_is)
    (case c_choice_at => k_is)
    (case k_choice_at => k_is)
    (case a_bracket_at => k_is)
    (case l_bracket_at => k_is)
    (case c_bracket_at => k_is)
    (case k_bracket_at => k_is)
    (case a_mark_at => k_is)
    (case l_mark_at => k_is)
    (case c_mark_at => k_is)
    (case k_mark_at => k_is)
    (case a_places_of => k_is)
    (case l_places_of => k_is)
    (case c_places_of => k_is)
    (case k_places_of => k_is)
    (case a_read => k_is)
    (case l_read => k_is)
    (case c_read => k_is)
    (case k_read => k_is)
    (case a_let_on => k_is)
    (case l_let_on => k_is)
    (case c_let_on => k_is)
    (case k_let_on => k_is)
    (case a_is_world => k_is)
    (case l_is_world => k_is)
    (case c_is_world => k_is)
    (case k_is_world => k_is)
    (case a_is_one_of => k_is)
    (case l_is_one_of => k_is)
    (case c_is_one_of => k_is)
    (case k_is_one_of => k_is)
    (case a_is_of_hands => k_is)
    (case l_is_of_hands => k_is)
    (case c_is_of_hands => k_is)
    (case k_is_of_hands => k_is)
    (case a_is_rule => k_is)
    (case l_is_rule => k_is)
    (case c_is_rule => k_is)
    (case k_is_rule => k_is)
    (case a_is_letter => k_is)
    (case l_is_letter => k_is)
    (case c_is_letter => k_is)
    (case k_is_letter => k_is)
    (case a_is_guard => k_is)
    (case l_is_guard => k_is)
    (case c_is_guard => k_is)
    (case k_is_guard => k_is)
    (case a_is_image => k_is)
    (case l_is_image => k_is)
    (case c_is_image => k_is)
    (case k_is_image => k_is)
    (case a_is_text_of => k_is)
    (case l_is_text_of => k_is)
    (case c_is_text_of => k_is)
    (case k_is_text_of => k_is)
    (case a_show_world => k_is)
    (case l_show_world => k_is)
    (case c_show_world => k_is)
    (case k_show_world => k_is)
    (case a_show_rule => k_is)
    (case l_show_rule => k_is)
    (case c_show_rule => k_is)
    (case k_show_rule => k_is)
    (case a_read_world => k_is)
    (case l_read_world => k_is)
    (case c_read_world => k_is)
    (case k_read_world => k_is)
    (case a_behind_blank => k_is)
    (case l_behind_blank => k_is)
    (case c_behind_blank => k_is)
    (case k_behind_blank => k_is)
    (case a_read_rule => k_is)
    (case l_read_rule => k_is)
    (case c_read_rule => k_is)
    (case k_read_rule => k_is)
    (case a_law_well => k_is)
    (case l_law_well => k_is)
    (case c_law_well => k_is)
    (case k_law_well => k_is)
    (case a_law_draw => k_is)
    (case l_law_draw => k_is)
    (case c_law_draw => k_is)
    (case k_law_draw => k_is)
    (case a_law_same => k_is)
    (case l_law_same => k_is)
    (case c_law_same => k_is)
    (case k_law_same => k_is)
    (case a_law_letters => k_is)
    (case l_law_letters => k_is)
    (case c_law_letters => k_is)
    (case k_law_letters => k_is)
    (case a_law_one_of => k_is)
    (case l_law_one_of => k_is)
    (case c_law_one_of => k_is)
    (case k_law_one_of => k_is)
    (case a_law_some => k_is)
    (case l_law_some => k_is)
    (case c_law_some => k_is)
    (case k_law_some => k_is)
    (case a_law_rule => k_is)
    (case l_law_rule => k_is)
    (case c_law_rule => k_is)
    (case k_law_rule => k_is)
    (case a_law_item => k_is)
    (case l_law_item => k_is)
    (case c_law_item => k_is)
    (case k_law_item => k_is)
    (case a_law_pattern => k_is)
    (case l_law_pattern => k_is)
    (case c_law_pattern => k_is)
    (case k_law_pattern => k_is)
    (case a_law_world => k_is)
    (case l_law_world => k_is)
    (case c_law_world => k_is)
    (case k_law_world => k_is)
    (case a_law_every => k_is)
    (case l_law_every => k_is)
    (case c_law_every => k_is)
    (case k_law_every => k_is)
    (case a_law_bent => k_is)
    (case l_law_bent => k_is)
    (case c_law_bent => k_is)
    (case k_law_bent => k_is)
    (case a_law_shape => k_is)
    (case l_law_shape => k_is)
    (case c_law_shape => k_is)
    (case k_law_shape => k_is)
    (case a_law_near => k_is)
    (case l_law_near => k_is)
    (case c_law_near => k_is)
    (case k_law_near => k_is)
    (case a_law_back => k_is)
    (case l_law_back => k_is)
    (case c_law_back => k_is)
    (case k_law_back => k_is)
    (case a_law => k_is)
    (case l_law => k_is)
    (case c_law => k_is)
    (case k_law => k_is)
    (case z_all => k_is)
    (case z_any => k_is)
    (case z_bool => k_is)
    (case z_enumerate => k_is)
    (case z_int => k_is)
    (case z_isinstance => k_is)
    (case z_len => k_is)
    (case z_list => k_is)
    (case z_max => k_is)
    (case z_min => k_is)
    (case z_range => k_is)
    (case z_set => k_is)
    (case z_sorted => k_is)
    (case z_str => k_is)
    (case z_sum => k_is)
    (case z_tuple => k_is)
    (case z_zip => k_is)
    (case y_MOST_ITEMS => k_is)
    (case y_MOST_LETTERS => k_is)
    (case y_HOWS => k_is)
    (case l_HOWS => k_is)
    (case v_HOWS => first | rfl | kernel_rfl | decide +kernel)
    (case y_RING_PLACES => k_is)
    (case l_RING_PLACES => k_is)
    (case v_RING_PLACES => first | rfl | kernel_rfl | decide +kernel)
    (case y_ROW_PLACES => k_is)
    (case l_ROW_PLACES => k_is)
    (case v_ROW_PLACES => first | rfl | kernel_rfl | decide +kernel)
    (case y_SHAPES => k_is)
    (case l_SHAPES => k_is)
    (case v_SHAPES => first | rfl | kernel_rfl | decide +kernel)
    (case y_NoPattern => k_is)
    (case y_NoWorld => k_is)
    (case e_NoPattern => k_exc)
    (case k_NoPattern => first | k_is | rfl | kernel_rfl | decide +kernel)
    (case b_NoPattern => first | k_is | rfl | kernel_rfl | decide +kernel)
    (case t_NoPattern => first | k_is | rfl | kernel_rfl | decide +kernel)
    (case h1_NoPattern => first | k_is | rfl | kernel_rfl | decide +kernel)
    (case h2_NoPattern => first | k_is | rfl | kernel_rfl | decide +kernel)
    (case h4_NoPattern => first | k_is | rfl | kernel_rfl | decide +kernel)
    (case h5_NoPattern => first | k_is | rfl | kernel_rfl | decide +kernel)
    (case h6_NoPattern => first | k_is | rfl | kernel_rfl | decide +kernel)
    (case h7_NoPattern => first | k_is | rfl | kernel_rfl | decide +kernel)
    (case h8_NoPattern => first | k_is | rfl | kernel_rfl | decide +kernel)
    (case c1_NoPattern_NoPattern => first | k_is | rfl | kernel_rfl | decide +kernel)
    (case c2_NoPattern_NoPattern => first | k_is | rfl | kernel_rfl | decide +kernel)
    (case c3_NoPattern_NoPattern => first | k_is | rfl | kernel_rfl | decide +kernel)
    (case c4_NoPattern_NoPattern => first | k_is | rfl | kernel_rfl | decide +kernel)
    (case q_NoPattern_V => first | k_is | rfl | kernel_rfl | decide +kernel)
    (case e_NoWorld => k_exc)
    (case k_NoWorld => first | k_is | rfl | kernel_rfl | decide +kernel)
    (case b_NoWorld => first | k_is | rfl | kernel_rfl | decide +kernel)
    (case t_NoWorld => first | k_is | rfl | kernel_rfl | decide +kernel)
    (case h1_NoWorld => first | k_is | rfl | kernel_rfl | decide +kernel)
    (case h2_NoWorld => first | k_is | rfl | kernel_rfl | decide +kernel)
    (case h4_NoWorld => first | k_is | rfl | kernel_rfl | decide +kernel)
    (case h5_NoWorld => first | k_is | rfl | kernel_rfl | decide +kernel)
    (case h6_NoWorld => first | k_is | rfl | kernel_rfl | decide +kernel)
    (case h7_NoWorld => first | k_is | rfl | kernel_rfl | decide +kernel)
    (case h8_NoWorld => first | k_is | rfl | kernel_rfl | decide +kernel)
    (case c1_NoWorld_NoWorld => first | k_is | rfl | kernel_rfl | decide +kernel)
    (case c2_NoWorld_NoWorld => first | k_is | rfl | kernel_rfl | decide +kernel)
    (case c3_NoWorld_NoWorld => first | k_is | rfl | kernel_rfl | decide +kernel)
    (case c4_NoWorld_NoWorld => first | k_is | rfl | kernel_rfl | decide +kernel)
    (case q_NoWorld_V => first | k_is | rfl | kernel_rfl | decide +kernel)
